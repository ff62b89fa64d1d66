import PyProof.Rows.All
import Wide.All
import OpenK.AllK
import Wide.FinOn
import Lean
import PyProof.EqAt
import PyProof.EqKinds
import PyProof.TupleCall
import KE.LcSums
import KE.KDictOf
import PyProof.ZipIter
import KE.KTryMore
import KE.KSortTup
import PyProof.DictItems
import PyProof.NeKinds
import PySem.SetOps
import PyProof.TupleKey
import PyProof.IsRules
import PyProof.SetKind
import PyProof.SetNew
import PyProof.Rows.SetFrom
import PyProof.CollectWalk
import PyProof.WalksMore
import PyProof.TupleIter
import KE.RegKIsAll
import PySem.Challenge.RW_meadshares_k43_lands
set_option Elab.async false
set_option linter.all false
set_option maxRecDepth 100000
local macro_rules | `(tactic| omega) => `(tactic| lia)
namespace L2
open PySem PySem.Spec PyProof.Rows
noncomputable abbrev Key:=Sum Int Str
noncomputable def keyIs:Key→Value→Bool
 | .inl k,v => Value.isInt k v
 | .inr x,v => Value.isStrOf x v
noncomputable def keyH (w:World):Key→Int
 | .inl k => hashInt k
 | .inr x => hashStr w x
theorem keyIs_shape:∀ {k:Key} {v:Value},keyIs k v = true→(∃ i t,k = Sum.inl i∧v = Value.int i t) ∨ (∃ x t,k = Sum.inr x∧v = Value.str x t)
 | .inl i,v,h => by
  obtain ⟨t,e⟩:=Value.isInt_shape (k:=i) (v:=v) h
  exact .inl ⟨i,t,rfl,e⟩
 | .inr x,v,h => by
  obtain ⟨t,e⟩:=Value.isStrOf_shape (x:=x) (v:=v) h
  exact .inr ⟨x,t,rfl,e⟩
theorem keyIs_int (i:Int) (t:Tok):keyIs (.inl i) (.int i t) = true:=by simp [keyIs,Value.isInt]
theorem key_ll (a b:Int):decide ((Sum.inl a:Key) = Sum.inl b) = (a == b):=by
 by_cases e:a = b
 ·subst e; simp
 ·have h:¬ (Sum.inl a:Key) = Sum.inl b:=fun q => e (Sum.inl.inj q)
  rw [decide_eq_false h]
  exact (beq_eq_false_iff_ne.mpr e).symm
theorem key_rr (a b:Str):decide ((Sum.inr a:Key) = Sum.inr b) = decide (a = b):=by
 by_cases e:a = b
 ·subst e; simp
 ·have h:¬ (Sum.inr a:Key) = Sum.inr b:=fun q => e (Sum.inr.inj q)
  rw [decide_eq_false h,decide_eq_false e]
theorem key_lr (a:Int) (b:Str):decide ((Sum.inl a:Key) = Sum.inr b) = false:=decide_eq_false (fun q => nomatch q)
theorem key_rl (a:Str) (b:Int):decide ((Sum.inr a:Key) = Sum.inl b) = false:=decide_eq_false (fun q => nomatch q)
noncomputable def mixKind (prog:Program) (w:World):PySem.KeyKind prog w Key where
 is:=keyIs
 hash:=keyH w
 inj:=fun v a b ha hb => by
  rcases keyIs_shape ha with ⟨i,t,rfl,rfl⟩ | ⟨x,t,rfl,rfl⟩
  ·rcases keyIs_shape hb with ⟨j,u,rfl,e⟩ | ⟨y,u,rfl,e⟩
   ·injection e with e1 _; rw [e1]
   ·exact nomatch e
  ·rcases keyIs_shape hb with ⟨j,u,rfl,e⟩ | ⟨y,u,rfl,e⟩
   ·exact nomatch e
   ·injection e with e1 _; rw [e1]
 byValue:=fun k v h => by
  rcases keyIs_shape h with ⟨i,t,rfl,rfl⟩ | ⟨x,t,rfl,rfl⟩ <;> rfl
 pyHash:=fun hv h => by
  rcases keyIs_shape hv with ⟨i,t,rfl,rfl⟩ | ⟨x,t,rfl,rfl⟩
  ·exact wpAny_pyHash_int h
  ·exact wpAny_pyHash_str h
 eqBool:=fun hu hv h => by
  rcases keyIs_shape hu with ⟨i,t,rfl,rfl⟩ | ⟨x,t,rfl,rfl⟩
  ·rcases keyIs_shape hv with ⟨j,u,rfl,rfl⟩ | ⟨y,u,rfl,rfl⟩
   ·rw [key_ll] at h; exact wpAny_eqBool_int h
   ·rw [key_lr] at h; exact SeqAt.EqAt.int_str i t y u _ _ _ _ h
  ·rcases keyIs_shape hv with ⟨j,u,rfl,rfl⟩ | ⟨y,u,rfl,rfl⟩
   ·rw [key_rl] at h; exact SeqAt.EqAt.str_int x t j u _ _ _ _ h
   ·rw [key_rr] at h; exact wpAny_eqBool_str h
 «strs»:=fun k x t v h => by
  rcases keyIs_shape h with ⟨i,u,rfl,e⟩ | ⟨y,u,rfl,e⟩
  ·exact nomatch e
  ·injection e with e1 _
   subst e1
   cases v <;> rfl
theorem mixKind_int (prog:Program) (w:World) (i:Int) (t:Tok):(mixKind prog w).is (.inl i) (.int i t) = true:=keyIs_int i t
end L2
namespace L2
open PySem PySem.Spec PyProof.Rows
inductive V where
 | non | bl (b:Bool) | int (i:Int) | str (x:Str) | byt (b:Array UInt8) | flt (b:UInt64) | ref (a:Addr) | ty (n:String)
 deriving DecidableEq
noncomputable def RelV:V→Value→Prop
 | .non,u => u = Value.none
 | .bl b,u => u = Value.bool b
 | .int i,u => ∃ t,u = Value.int i t
 | .str x,u => ∃ t,u = Value.str x t
 | .byt b,u => ∃ t,u = Value.bytes b t
 | .flt b,u => ∃ t,u = Value.float b t
 | .ref a,u => u = Value.ref a
 | .ty n,u => u = Value.type n
noncomputable abbrev Vals:List V→List Value→Prop:=Paired RelV
theorem Vals.length {xs:List V} {us:List Value} (r:Vals xs us):xs.length = us.length:=Paired.length r
theorem Vals.get:∀ {xs:List V} {us:List Value} {i:Nat} {x:V},Vals xs us→xs[i]? = some x→∃ u,us[i]? = some u∧RelV x u
 | _,_,_,_,.nil,e => by simp at e
 | _,_,0,_,.cons r _,e => by simp at e; subst e; exact ⟨_,rfl,r⟩
 | _,_,i + 1,x,.cons _ t,e => by
  obtain ⟨u,h1,h2⟩:=Vals.get (i:=i) (x:=x) t (by simpa using e)
  exact ⟨u,by simpa using h1,h2⟩
theorem Vals.set {x:V} {u:Value} (r:RelV x u):∀ {xs:List V} {us:List Value} (i:Nat),Vals xs us→Vals (xs.set i x) (us.set i u)
 | _,_,_,.nil => .nil
 | _,_,0,.cons _ t => .cons r t
 | _,_,i + 1,.cons q t => .cons q (Vals.set r i t)
theorem Vals.append:∀ {xs ys:List V} {us ws:List Value},Vals xs us→Vals ys ws→Vals (xs ++ ys) (us ++ ws)
 | _,_,_,_,.nil,s => s
 | _,_,_,_,.cons r t,s => .cons r (Vals.append t s)
theorem Vals.take:∀ {xs:List V} {us:List Value} (n:Nat),Vals xs us→Vals (xs.take n) (us.take n)
 | _,_,0,_ => .nil
 | _,_,_ + 1,.nil => .nil
 | _,_,n + 1,.cons r t => .cons r (Vals.take n t)
theorem Vals.drop:∀ {xs:List V} {us:List Value} (n:Nat),Vals xs us→Vals (xs.drop n) (us.drop n)
 | _,_,0,r => r
 | _,_,_ + 1,.nil => .nil
 | _,_,n + 1,.cons _ t => Vals.drop n t
theorem Vals.none_of:∀ {xs:List V} {us:List Value} {i:Nat},Vals xs us→xs[i]? = none→us[i]? = none:=fun {xs us i} r e => by
 have h1:=r.length
 have h2:xs.length ≤ i:=List.getElem?_eq_none_iff.mp e
 exact List.getElem?_eq_none_iff.mpr (by omega)
noncomputable def RelO:Option V→Option Value→Prop
 | some v,some u => RelV v u
 | none,none => True
 | _,_ => False
noncomputable def KV {κ:Type}:List (κ × V)→List (κ × Value)→Prop:=Paired fun (p:κ × V) (q:κ × Value) => p.1 = q.1∧RelV p.2 q.2
noncomputable def kV:Key→V
 | .inl i => .int i
 | .inr x => .str x
inductive HO where
  | lst (xs:List V)
  | tup (xs:List V)
  | dK (kvs:List (Key × V)) | dT (kvs:List (List Key × V))
  | set (S:Int→Bool) (n:Nat)
  | ins (C dx:Addr) (fs:List (Str × V))
  | own (x:Addr)
  | xd (fs:List (Str × V))
  | met (f x:Addr)
  | rng (lo hi:Int)
  | frz (o:Obj) (u:HO)
  | tbl (ps:Array Value)
  | ext (φ:Heap→Prop)
noncomputable abbrev Hp:=Addr→Option HO
noncomputable def upd (H:Hp) (a:Addr) (o:HO):Hp:=fun b => if b = a then some o else H b
theorem upd_same {H:Hp} {a:Addr} {o:HO}:upd H a o a = some o:=by unfold upd; rw [if_pos rfl]
theorem upd_ne {H:Hp} {a b:Addr} {o:HO} (h:b ≠ a):upd H a o b = H b:=by unfold upd; rw [if_neg h]
theorem ne_of {H:Hp} {a b:Addr} {o u:HO} (h:H a = some o) (h':H b = some u) (d:o ≠ u):a ≠ b:=by
 intro e; subst e; rw [h] at h'; exact d (Option.some.inj h')
theorem ne_of_none {H:Hp} {a b:Addr} {o:HO} (h:H a = some o) (h':H b = none):a ≠ b:=by
 intro e; subst e; rw [h] at h'; cases h'
section
variable (P:Program) (w:World)
noncomputable def ObjOk (H:Hp) (h:Heap) (a:Addr):HO→Prop
 | .lst xs => xs.length ≤ sizeLine∧∃ (its:List Value) (n:Nat),Vals xs its∧h.get? a = some { cls:=.type "list",data:=.seq its.toArray n }
 | .tup xs => xs.length ≤ sizeLine∧∃ its:List Value,Vals xs its∧IsTup h a its.toArray
 | .dK kvs => kvs.length ≤ sizeLine∧(a == sysModules) = false∧∃ vs,KV kvs vs∧h.DictOf (mixKind P w) a vs
 | .dT kvs => kvs.length ≤ sizeLine∧(a == sysModules) = false∧∃ xs:List (List Key × Addr × Value),
   Paired (fun (p:List Key × V) (q:List Key × Addr × Value) => p.1 = q.1∧H q.2.1 = some (.tup (p.1.map kV))∧RelV p.2 q.2.2) kvs xs ∧
   ∃ o es ep,h.get? a = some o∧o.ExactDict∧o.data = .dict es ep∧es.toList = xs.map (entryOfKey (tupleKind (mixKind P w)))∧(xs.map (·.1)).Nodup
 | .set S n => h.SetOf (intKind P w) a S n
 | .ins C dx fs => H dx = some (.own a)∧fs.length ≤ 1000∧dx ≠ a∧h.get? a = some (PySem.W.instObj C dx) ∧
   ∃ mA,h.Ns1 dx mA∧(∀ f,RelO (fs.lookup f) (mA f))∧PySem.Within mA (fs.map (·.1))
 | .own _ => ∃ o,h.get? a = some o
 | .xd fs => ∃ mA,h.Ns1 a mA∧∀ f,RelO (fs.lookup f) (mA f)
 | .rng lo hi => ∃ t u v,h.get? a = some { cls:=.type "range",data:=.fields #[.int lo t,.int hi u,.int 1 v] }
 | .frz o u => h.get? a = some o∧ObjOk H h a u
 | .tbl ps => h.get? a = some { cls:=.none,data:=.fields ps }
 | .met f x => h.get? a = some (PySem.W.methodObj (.ref f) (.ref x))
 | .ext φ => φ h∧(∃ o,h.get? a = some o)∧∀ h1 h2:Heap,φ h1→(∀ o,h1.get? a = some o→h2.get? a = some o)→φ h2
noncomputable def HOk (H:Hp) (h:Heap):Prop:=∀ a o,H a = some o→ObjOk P w H h a o
end
section
variable {P:Program} {w:World} {H H':Hp} {h h':Heap} {a:Addr} {o:HO}
theorem ObjOk.lt (x:ObjOk P w H h a o):a < h.objs.size:=by
 cases o with
 | lst xs => obtain ⟨_,_,_,_,e⟩:=x; exact Heap.lt_size e
 | tup xs => obtain ⟨_,_,_,p⟩:=x; exact p.lt
 | dK kvs => obtain ⟨_,_,_,_,o,_,_,e,_⟩:=x; exact Heap.lt_size e
 | dT kvs => obtain ⟨_,_,_,_,o,_,_,e,_⟩:=x; exact Heap.lt_size e
 | set S n => obtain ⟨o,_,_,_,e,_⟩:=x; exact Heap.lt_size e
 | ins C dx fs => obtain ⟨_,_,_,e,_⟩:=x; exact Heap.lt_size e
 | own y => obtain ⟨_,e⟩:=x; exact Heap.lt_size e
 | xd fs => obtain ⟨_,⟨_,_,_,e,_⟩,_⟩:=x; exact Heap.lt_size e
 | rng lo hi => obtain ⟨_,_,_,e⟩:=x; exact Heap.lt_size e
 | frz ob u => obtain ⟨e,_⟩:=x; exact Heap.lt_size e
 | tbl ps => exact Heap.lt_size (show h.get? a = some _ from x)
 | met f y => exact Heap.lt_size (show h.get? a = some _ from x)
 | ext φ => obtain ⟨_,⟨_,e⟩,_⟩:=x; exact Heap.lt_size e
theorem Paired.mapP {α β:Type} {F G:α→β→Prop}:∀ {l₁:List α} {l₂:List β},Paired F l₁ l₂→(∀ a b,F a b→G a b)→Paired G l₁ l₂
 | _,_,.nil,_ => .nil
 | _,_,.cons r t,f => .cons (f _ _ r) (Paired.mapP t f)
theorem ObjOk.stay (x:ObjOk P w H h a o) (k:∀ b u,(b = a ∨ H b = some (.own a))→h.get? b = some u→h'.get? b = some u)
  (ho:∀ b,H b = some (.own a)→H' b = some (.own a)) (ht:∀ b xs,H b = some (.tup xs)→H' b = some (.tup xs)):ObjOk P w H' h' a o:=by
 induction o with
 | lst xs => obtain ⟨z,its,n,r,e⟩:=x; exact ⟨z,its,n,r,k _ _ (.inl rfl) e⟩
 | tup xs => obtain ⟨z,its,r,ob,e,c⟩:=x; exact ⟨z,its,r,ob,k _ _ (.inl rfl) e,c⟩
 | dK kvs => obtain ⟨z,y,vs,r,ob,es,ep,e,c⟩:=x; exact ⟨z,y,vs,r,ob,es,ep,k _ _ (.inl rfl) e,c⟩
 | dT kvs =>
  obtain ⟨z,y,xs,r,ob,es,ep,e,c⟩:=x
  exact ⟨z,y,xs,Paired.mapP r fun p q z => ⟨z.1,ht _ _ z.2.1,z.2.2⟩,ob,es,ep,k _ _ (.inl rfl) e,c⟩
 | set S n => obtain ⟨ob,es,ep,t,e,c⟩:=x; exact ⟨ob,es,ep,t,k _ _ (.inl rfl) e,c⟩
 | ins C dx fs =>
  obtain ⟨d,z,ne,e,mA,⟨od,es,ep,e2,c⟩,r⟩:=x
  exact ⟨ho _ d,z,ne,k _ _ (.inl rfl) e,mA,⟨od,es,ep,k _ _ (.inr d) e2,c⟩,r⟩
 | own y => obtain ⟨ob,e⟩:=x; exact ⟨ob,k _ _ (.inl rfl) e⟩
 | xd fs => obtain ⟨mA,⟨od,es,ep,e,c⟩,r⟩:=x; exact ⟨mA,⟨od,es,ep,k _ _ (.inl rfl) e,c⟩,r⟩
 | rng lo hi => obtain ⟨t,u,v,e⟩:=x; exact ⟨t,u,v,k _ _ (.inl rfl) e⟩
 | frz ob u ih => obtain ⟨e,q⟩:=x; exact ⟨k _ _ (.inl rfl) e,ih q⟩
 | tbl ps =>
  have e:h.get? a = some { cls:=.none,data:=.fields ps }:=x
  show h'.get? a = some { cls:=.none,data:=.fields ps }
  exact k a _ (.inl rfl) e
 | met f y =>
  have e:h.get? a = some (PySem.W.methodObj (.ref f) (.ref y)):=x
  show h'.get? a = some (PySem.W.methodObj (.ref f) (.ref y))
  exact k a _ (.inl rfl) e
 | ext φ => obtain ⟨p,⟨o,e⟩,st⟩:=x; exact ⟨st _ _ p fun o q => k _ _ (.inl rfl) q,⟨o,k _ _ (.inl rfl) e⟩,st⟩
theorem HOk.lt (x:HOk P w H h) (e:H a = some o):a < h.objs.size:=(x a o e).lt
theorem HOk.fresh (x:HOk P w H h) (e:h.objs.size ≤ a):H a = none:=by
 cases q:H a with
 | none => rfl
 | some u => exact absurd (Nat.lt_of_lt_of_le (x.lt q) e) (Nat.lt_irrefl _)
theorem HOk.kept (x:HOk P w H h) (k:∀ b u,h.get? b = some u→h'.get? b = some u):HOk P w H h':=fun a o e =>
 (x a o e).stay (fun b u _ q => k b u q) (fun _ q => q) fun _ _ q => q
theorem HOk.laid (x:HOk P w H h) (k:∀ b u,h.get? b = some u→h'.get? b = some u) (hp:h.objs.size ≤ a) (new:ObjOk P w (upd H a o) h' a o):HOk P w (upd H a o) h':=fun b u e => by
 have hn:=x.fresh hp
 by_cases hb:b = a
 ·subst hb; rw [upd_same] at e; cases e; exact new
 ·rw [upd_ne hb] at e
  exact (x b u e).stay (fun c v _ q => k c v q) (fun c q => by rw [upd_ne (ne_of_none q hn)]; exact q) fun c xs q => by rw [upd_ne (ne_of_none q hn)]; exact q
end
noncomputable def Rd (H:Hp) (a:Addr) (u:HO):Prop:=H a = some u ∨ ∃ o,H a = some (.frz o u)
theorem Rd.ok {P:Program} {w:World} {H:Hp} {h:Heap} {a:Addr} {u:HO} (r:Rd H a u) (x:HOk P w H h):ObjOk P w H h a u:=by
 rcases r with r | ⟨o,r⟩
 ·exact x a u r
 ·obtain ⟨_,q⟩:=x a _ r
  exact q
noncomputable def Mut:Option HO→Prop
 | some (.lst _) => True
 | some (.dK _) => True
 | some (.dT _) => True
 | some (.set _ _) => True
 | some (.ins _ _ _) => True
 | some (.ext _) => True
 | _ => False
section
variable {P:Program} {w:World} {H:Hp} {h h':Heap} {x e:Addr} {o':HO}
theorem HOk.write (ok:HOk P w H h) (mu:Mut (H x)) (he:e = x ∨ H e = some (.own x)) (k:∀ b u,b ≠ e→h.get? b = some u→h'.get? b = some u) (heo:∃ u,h'.get? e = some u)
  (new:ObjOk P w (upd H x o') h' x o'):HOk P w (upd H x o') h':=fun b u q => by
 have nown:∀ c y,H c = some (.own y)→c ≠ x:=fun c y r z => by subst z; rw [r] at mu; exact mu
 have ntup:∀ c xs,H c = some (.tup xs)→c ≠ x:=fun c xs r z => by subst z; rw [r] at mu; exact mu
 by_cases hb:b = x
 ·subst hb; rw [upd_same] at q; cases q; exact new
 ·rw [upd_ne hb] at q
  by_cases hbe:b = e
  ·have q':H b = some (.own x):=by
    rcases he with z | z
    ·exact absurd (hbe.trans z) hb
    ·rw [hbe]; exact z
   rw [q] at q'; cases q'
   obtain ⟨v,hv⟩:=heo
   exact ⟨v,by rw [hbe]; exact hv⟩
  ·refine (ok b u q).stay (fun c v hc r => k c v ?_ r) (fun c r => by rw [upd_ne (nown c b r)]; exact r) fun c xs r => by rw [upd_ne (ntup c xs r)]; exact r
   rcases hc with rfl | hc
   ·exact hbe
   ·rintro rfl
    rcases he with z | z
    ·exact nown c b hc z
    ·rw [hc] at z; cases z; exact hb rfl
end
structure Un (fs ex:List Addr) (H H':Hp) (h h':Heap):Prop where
 keep:∀ b o,h.get? b = some o→H b = none→b ∉ fs→b ∉ ex→h'.get? b = some o
 slot:∀ b o,h.get? b = some o→H b = none→b ∈ fs→b ∉ ex→∃ sl,h'.get? b = some { o with slots:=sl }
 free:∀ b o,h.get? b = some o→H b = none→b ∉ ex→H' b = none
 there:∀ b o,h.get? b = some o→b ∉ ex→∃ o',h'.get? b = some o'
 tups:∀ b xs,H b = some (.tup xs)→H' b = some (.tup xs)
 frzs:∀ b o u,H b = some (.frz o u)→H' b = some (.frz o u)
 tbls:∀ b ps,H b = some (.tbl ps)→∃ more,H' b = some (.tbl (ps ++ more))
section
variable {fs fs' ex ex':List Addr} {H H1 H2:Hp} {h h1 h2 h':Heap} {a x e:Addr} {o:HO}
theorem Un.any (u:Un fs ex H H1 h h1) {b:Addr} {ob:Obj} (q:h.get? b = some ob) (n:H b = none) (hx:b ∉ ex):∃ sl,h1.get? b = some { ob with slots:=sl }:=by
 by_cases hb:b ∈ fs
 ·exact u.slot b ob q n hb hx
 ·exact ⟨ob.slots,u.keep b ob q n hb hx⟩
theorem Un.kept (k:∀ b u,h.get? b = some u→h'.get? b = some u):Un fs ex H H h h' :=
 ⟨fun b ob q _ _ _ => k b ob q,fun b ob q _ _ _ => ⟨ob.slots,k b ob q⟩,fun _ _ _ n _ => n,fun b ob q _ => ⟨ob,k b ob q⟩,fun _ _ q => q,fun _ _ _ q => q,fun _ ps q => ⟨#[],by rw [q]; simp⟩⟩
theorem Un.refl:Un fs ex H H h h:=Un.kept fun _ _ q => q
theorem Un.laid (k:∀ b u,h.get? b = some u→h'.get? b = some u) (hp:h.objs.size ≤ a) (hn:H a = none):Un fs ex H (upd H a o) h h' where
 keep:=fun b u q _ _ _ => k b u q
 slot:=fun b u q _ _ _ => ⟨u.slots,k b u q⟩
 free:=fun b u q n _ => by rw [upd_ne (Nat.ne_of_lt (Nat.lt_of_lt_of_le (Heap.lt_size q) hp))]; exact n
 there:=fun b u q _ => ⟨u,k b u q⟩
 tups:=fun b xs q => by rw [upd_ne (ne_of_none q hn)]; exact q
 frzs:=fun b u xs q => by rw [upd_ne (ne_of_none q hn)]; exact q
 tbls:=fun b ps q => ⟨#[],by rw [upd_ne (ne_of_none q hn),q]; simp⟩
theorem Un.write (mu:Mut (H x)) (he:e = x ∨ H e = some (.own x)) (k:∀ b u,b ≠ e→h.get? b = some u→h'.get? b = some u) (heo:∃ u,h'.get? e = some u):Un fs ex H (upd H x o) h h':=by
 have hx:∀ b,H b = none→b ≠ x:=fun b n z => by subst z; rw [n] at mu; exact mu
 have hb:∀ b,H b = none→b ≠ e:=fun b n z => by
  subst z
  rcases he with r | r
  ·exact hx b n r
  ·rw [n] at r; cases r
 have hm:∀ b u,H b = some u→¬ Mut (some u)→b ≠ x:=fun b u q nm z => by subst z; rw [q] at mu; exact nm mu
 refine ⟨fun b u q n _ _ => k b u (hb b n) q,fun b u q n _ _ => ⟨u.slots,k b u (hb b n) q⟩,fun b u q n _ => by rw [upd_ne (hx b n)]; exact n,fun b u q _ => ?_,
  fun b xs q => by rw [upd_ne (hm b _ q fun z => z)]; exact q,fun b u xs q => by rw [upd_ne (hm b _ q fun z => z)]; exact q,fun b ps q => ⟨#[],by rw [upd_ne (hm b _ q fun z => z),q]; simp⟩⟩
 by_cases hbe:b = e
 ·subst hbe; exact heo
 ·exact ⟨u,k b u hbe q⟩
end
noncomputable def trk (h:Heap) (H:Hp):List Addr:=(List.range h.objs.size).filter fun a => (H a).isSome
noncomputable def hidT (h:Heap) (H:Hp):Heap:=PySem.W.hideAll h (trk h H)
theorem hidT_size (h:Heap) (H:Hp):(hidT h H).objs.size = h.objs.size:=PySem.W.hideAll_size _ _
theorem hidT_get {h:Heap} {H:Hp} {b:Addr} {o:Obj} (e:h.get? b = some o) (n:H b = none):(hidT h H).get? b = some o :=
 PySem.W.hideAll_get _ e fun hm => by
  have q:(H b).isSome = true:=(List.mem_filter.mp hm).2
  rw [n] at q; simp at q
theorem of_hidT {h:Heap} {H:Hp} {b:Addr} {o:Obj} (e:(hidT h H).get? b = some o):h.get? b = some o∧H b = none:=by
 have e':h.get? b = some o:=PySem.W.of_hideAll (trk h H) e
 refine ⟨e',?_⟩
 cases q:H b with
 | none => rfl
 | some x =>
  have hm:b ∈ trk h H:=List.mem_filter.mpr ⟨List.mem_range.mpr (Heap.lt_size e'),by simp [q]⟩
  have z:(hidT h H).get? b = none:=PySem.W.hideAll_none (trk h H) hm
  rw [z] at e; cases e
noncomputable def allNews (g h:Heap) (L:Addr):List (Addr × Obj):=(List.range h.objs.size).filterMap fun a => if a = L ∨ (g.get? a).isSome = true then none else (h.get? a).map fun o => (a,o)
noncomputable def rest (g h:Heap) (L d:Addr):List (Addr × Obj):=(allNews g h L).filter fun p => decide (p.1 ≠ d)
end L2
namespace L2
open PySem PySem.Spec PyProof.Rows
structure Mod (K:PySem.W.Frag) (mg:Str→Option Value) (base:Heap):Prop where
 kin:K.In base
 glob:base.Ns mainGlobals mg
 blt:∃ mb,base.Ns builtinsNs mb∧∀ x:Str,x ≠ "__name__"→mb x = bootBuiltins x
 nolimit:base.NoLimit
structure Cx where
 prog:Program
 w:World
 K:PySem.W.Frag
 mg:Str→Option Value
 base:Heap
 A:Around
 N:List Str
 s₀:Shared
 H₀:Hp
 env:Env
 outer:List Env
 stack:List Env
 ex:List Addr
 fn:Str→Bool
 calm:Bool
 pn:List (Addr × Obj)
 xe:Value→Shared→Prop
noncomputable def frs (l:List Env):List Addr:=l.filterMap (·.frame)
noncomputable abbrev Cx.fs (X:Cx):List Addr:=frs X.outer
noncomputable def Vis (sc:Scope) (x:Str):Prop:=sc.names.lookup x = some .local ∨ sc.names.lookup x = some .cell ∨ sc.names.lookup x = some .free
noncomputable def Loc (sc:Scope) (x:Str):Prop:=sc.names.lookup x = some .local ∨ sc.names.lookup x = some .cell
noncomputable def Look (env:Env) (h:Heap) (m:Str→Option Value) (x:Str) (u:Value):Prop :=
 (env.kindOf x = some .local∧m x = some u) ∨ ((env.kindOf x = some .cell ∨ env.kindOf x = some .free)∧∃ c,env.cells.lookup x = some c∧h.IsCell c (some u))
structure Cx.Ok (X:Cx):Prop where
 mod:Mod X.K X.mg X.base
 kind:X.env.scope.kind = .function
 glob:X.env.globals = mainGlobals
 blt:X.env.builtins = builtinsNs
 above:X.s₀.heap.objs.size ≤ X.env.locals
 inj:∀ x y c,X.env.cells.lookup x = some c→X.env.cells.lookup y = some c→x = y
 has:∀ x,(X.env.kindOf x = some .cell ∨ X.env.kindOf x = some .free)→∃ c,X.env.cells.lookup x = some c
 cab:∀ x c,X.fn x = true→X.env.cells.lookup x = some c→X.s₀.heap.objs.size ≤ c
 hd:X.calm = true→X.A.handled = none
 frames:X.A.frames = some X.stack
 stk:X.stack = X.outer ∨ (X.stack = X.env :: X.outer∧X.env.frame = some X.env.locals)
 exf:∀ b ∈ X.ex,b ≠ X.env.locals∧∀ x c,X.env.cells.lookup x = some c→c ≠ b
 bs:∀ b o,X.base.get? b = some o→X.s₀.heap.get? b = some o∧X.H₀ b = none
 bsz:X.base.objs.size ≤ X.s₀.heap.objs.size
 noex:∀ b o,X.base.get? b = some o→b ∉ X.ex
 exfs:∀ b ∈ X.ex,b ∉ X.fs
 funs:X.s₀.heap.FunFrames X.base X.outer
 frf:∀ b ∈ X.fs,X.H₀ b = none
structure Inv (X:Cx) (pins:List (Addr × Obj)) (σ:List (Option V)) (H:Hp) (s:Shared):Prop where
 ok:X.Ok
 os:s.os = X.s₀.os
 bare:AllBare s.gens
 base:Un X.fs X.ex X.H₀ H X.s₀.heap s.heap
 loc:∃ m,s.heap.Ns X.env.locals m∧∀ (i:Nat) (x:Str) (v:V),X.N[i]? = some x→σ[i]? = some (some v)→Vis X.env.scope x→∃ u,RelV v u∧Look X.env s.heap m x u
 cell:∀ x c,X.env.cells.lookup x = some c→∃ v,s.heap.IsCell c v
 free:H X.env.locals = none
 freeC:∀ x c,X.env.cells.lookup x = some c→H c = none
 pin:∀ p ∈ X.pn ++ pins,s.heap.get? p.1 = some p.2∧H p.1 = none∧p.1 ≠ X.env.locals∧p.1 ∉ X.fs∧∀ v,p.2.data ≠ .cell v
 hok:HOk X.prog X.w H s.heap
 len:σ.length = X.N.length
section
variable {X:Cx} {pins:List (Addr × Obj)} {σ:List (Option V)} {H H':Hp} {s:Shared} {h':Heap}
theorem Cx.Ok.nofr (ok:X.Ok) {b:Addr} {o:Obj} (e:X.base.get? b = some o):b ∉ X.fs:=fun hb => by
 have:=(ok.funs.mem hb).1
 rw [e] at this; cases this
theorem Inv.bs (I:Inv X pins σ H s):∀ b o,X.base.get? b = some o→s.heap.get? b = some o∧H b = none:=fun b o e =>
 ⟨I.base.keep b o (I.ok.bs b o e).1 (I.ok.bs b o e).2 (I.ok.nofr e) (I.ok.noex b o e),I.base.free b o (I.ok.bs b o e).1 (I.ok.bs b o e).2 (I.ok.noex b o e)⟩
theorem Inv.bk (I:Inv X pins σ H s):∀ b o,X.base.get? b = some o→s.heap.get? b = some o:=fun b o e => (I.bs b o e).1
theorem Inv.mod (I:Inv X pins σ H s):Mod X.K X.mg X.base:=I.ok.mod
theorem Inv.kIn (I:Inv X pins σ H s):X.K.In s.heap:=I.ok.mod.kin.keeps I.bk
theorem Inv.lt (I:Inv X pins σ H s):X.env.locals < s.heap.objs.size:=let ⟨_,hn,_⟩:=I.loc; hn.lt
theorem Inv.sz (I:Inv X pins σ H s):X.s₀.heap.objs.size ≤ s.heap.objs.size:=Nat.le_trans I.ok.above (Nat.le_of_lt I.lt)
theorem Inv.nofs (I:Inv X pins σ H s) {a:Addr} (h:s.heap.objs.size ≤ a):a ∉ X.fs:=fun hb => by
 obtain ⟨_,o,ho,_⟩:=I.ok.funs.mem hb
 exact absurd (Nat.lt_of_lt_of_le (Heap.lt_size ho) (Nat.le_trans I.sz h)) (Nat.lt_irrefl _)
theorem Inv.cne (I:Inv X pins σ H s):∀ x c,X.env.cells.lookup x = some c→c ≠ X.env.locals:=fun x c e z => by
 obtain ⟨v,o,ho,hd⟩:=I.cell x c e
 obtain ⟨m,⟨o',es,ep,ho',hd',_⟩,_⟩:=I.loc
 rw [z,ho'] at ho; cases ho; rw [hd'] at hd; cases hd
theorem Inv.funs (I:Inv X pins σ H s):s.heap.FunFrames X.base X.outer:=by
 have all:∀ (l:List Env),(∀ b ∈ frs l,b ∈ X.fs)→X.s₀.heap.FunFrames X.base l→s.heap.FunFrames X.base l:=by
  intro l
  induction l with
  | nil => intro _ _; trivial
  | cons env r ih =>
   intro hs hl
   obtain ⟨hk,⟨L,o,hf,hn,ho,hd⟩,hr⟩:=hl
   have hL:L ∈ X.fs:=hs L (by unfold frs; rw [List.filterMap_cons,hf]; exact List.mem_cons_self)
   obtain ⟨sl,e⟩:=I.base.slot L o ho (I.ok.frf L hL) hL fun z => I.ok.exfs L z hL
   exact ⟨hk,⟨L,_,hf,hn,e,hd⟩,ih (fun b hb => hs b (by unfold frs; rw [List.filterMap_cons,hf]; exact List.mem_cons_of_mem _ hb)) hr⟩
 exact all X.outer (fun _ hb => hb) I.ok.funs
theorem Inv.stack (I:Inv X pins σ H s):s.heap.FunFrames X.base X.stack:=by
 rcases I.ok.stk with e | ⟨e,hf⟩
 ·rw [e]; exact I.funs
 ·rw [e]
  obtain ⟨m,hn,_⟩:=I.loc
  refine .cons (by rw [I.ok.kind]; decide) hf hn ?_ I.funs
  exact Heap.get?_none_of_le (Nat.le_trans I.ok.bsz I.ok.above)
theorem Inv.stkSub (I:Inv X pins σ H s):∀ b ∈ frs X.stack,b ∈ X.env.locals :: X.fs:=fun b hb => by
 rcases I.ok.stk with e | ⟨e,hf⟩
 ·rw [e] at hb; exact List.mem_cons_of_mem _ hb
 ·rw [e] at hb
  unfold frs at hb
  rw [List.filterMap_cons,hf] at hb
  exact hb
theorem Inv.stkFree (I:Inv X pins σ H s):∀ b ∈ frs X.stack,H b = none:=fun b hb => by
 rcases List.mem_cons.mp (I.stkSub b hb) with e | hb
 ·rw [e]; exact I.free
 ·obtain ⟨_,o,ho,_⟩:=I.ok.funs.mem hb
  exact I.base.free b o ho (I.ok.frf b hb) fun z => I.ok.exfs b z hb
theorem Inv.step {g':Array GenState} {t':Nat} {d':Drawn} {ch:List Addr} (I:Inv X pins σ H s)
  (hch:∀ b ∈ ch,(b ∈ X.ex ∨ X.s₀.heap.objs.size ≤ b)∧b ≠ X.env.locals∧(∀ x c,X.env.cells.lookup x = some c→c ≠ b)∧∀ p ∈ X.pn ++ pins,p.1 ≠ b)
  (keep:∀ b o,b ≠ X.env.locals→b ∉ X.fs→b ∉ ch→s.heap.get? b = some o→H b = none→h'.get? b = some o)
  (slot:∀ b o,b ≠ X.env.locals→b ∈ X.fs→b ∉ ch→s.heap.get? b = some o→H b = none→∃ sl,h'.get? b = some { o with slots:=sl }) (free:∀ b o,b ∉ ch→s.heap.get? b = some o→H b = none→H' b = none)
  (there:∀ b o,b ∉ ch→s.heap.get? b = some o→∃ o',h'.get? b = some o')
  (tups:∀ b xs,H b = some (.tup xs)→H' b = some (.tup xs)) (frzs:∀ b o u,H b = some (.frz o u)→H' b = some (.frz o u)) (tbls:∀ b ps,H b = some (.tbl ps)→∃ more,H' b = some (.tbl (ps ++ more)))
  (ns:∀ m,s.heap.Ns X.env.locals m→h'.Ns X.env.locals m) (hok:HOk X.prog X.w H' h') (hg:AllBare g') :
  Inv X pins σ H' { s with heap:=h',gens:=g',drawn:=d',toks:=t' }:=by
 have neL:∀ b o,X.s₀.heap.get? b = some o→b ≠ X.env.locals:=fun b o e => Nat.ne_of_lt (Nat.lt_of_lt_of_le (Heap.lt_size e) I.ok.above)
 have neC:∀ b o,X.s₀.heap.get? b = some o→b ∉ X.ex→b ∉ ch:=fun b o e hx hb => by
  rcases (hch b hb).1 with z | z
  ·exact hx z
  ·exact absurd (Nat.lt_of_lt_of_le (Heap.lt_size e) z) (Nat.lt_irrefl _)
 have cellK:∀ x c,X.env.cells.lookup x = some c→∀ v,s.heap.IsCell c v→h'.IsCell c v:=fun x c e v ⟨o,ho,hd⟩ => by
  have nch:c ∉ ch:=fun z => (hch c z).2.2.1 x c e rfl
  by_cases hc:c ∈ X.fs
  ·obtain ⟨sl,q⟩:=slot c o (I.cne x c e) hc nch ho (I.freeC x c e)
   exact ⟨_,q,hd⟩
  ·exact ⟨o,keep c o (I.cne x c e) hc nch ho (I.freeC x c e),hd⟩
 refine ⟨I.ok,I.os,hg,⟨fun b o e n hb hx => ?_,fun b o e n hb hx => ?_,fun b o e n hx => ?_,fun b o e hx => ?_,fun b xs e => tups b xs (I.base.tups b xs e),fun b o xs e => frzs b o xs (I.base.frzs b o xs e),fun b ps e => ?_⟩,?_,fun x c e => ?_,?_,fun x c e => ?_,fun p hp => ?_,hok,I.len⟩
 ·exact keep b o (neL b o e) hb (neC b o e hx) (I.base.keep b o e n hb hx) (I.base.free b o e n hx)
 ·obtain ⟨sl,e1⟩:=I.base.slot b o e n hb hx
  obtain ⟨sl',e2⟩:=slot b _ (neL b o e) hb (neC b o e hx) e1 (I.base.free b o e n hx)
  exact ⟨sl',e2⟩
 ·obtain ⟨o',e1⟩:=I.base.there b o e hx
  exact free b o' (neC b o e hx) e1 (I.base.free b o e n hx)
 ·obtain ⟨o',e1⟩:=I.base.there b o e hx
  exact there b o' (neC b o e hx) e1
 ·obtain ⟨m1,e1⟩:=I.base.tbls b ps e
  obtain ⟨m2,e2⟩:=tbls b _ e1
  exact ⟨m1 ++ m2,by rw [e2,Array.append_assoc]⟩
 ·obtain ⟨m,hn,hl⟩:=I.loc
  refine ⟨m,ns m hn,fun i x v e1 e2 e3 => ?_⟩
  obtain ⟨u,r,l⟩:=hl i x v e1 e2 e3
  refine ⟨u,r,?_⟩
  rcases l with l | ⟨k,c,e,z⟩
  ·exact .inl l
  ·exact .inr ⟨k,c,e,cellK x c e _ z⟩
 ·obtain ⟨v,z⟩:=I.cell x c e
  exact ⟨v,cellK x c e v z⟩
 ·obtain ⟨m,⟨o,_,_,ho,_⟩,_⟩:=I.loc
  exact free _ o (fun z => (hch _ z).2.1 rfl) ho I.free
 ·obtain ⟨v,o,ho,hd⟩:=I.cell x c e
  exact free c o (fun z => (hch c z).2.2.1 x c e rfl) ho (I.freeC x c e)
 ·obtain ⟨e,n,ne,nf,d⟩:=I.pin p hp
  have nch:p.1 ∉ ch:=fun z => (hch p.1 z).2.2.2 p hp rfl
  exact ⟨keep p.1 p.2 ne nf nch e n,free p.1 p.2 nch e n,ne,nf,d⟩
theorem Inv.un {t':Nat} (I:Inv X pins σ H s) (u:Un X.fs [] H H' s.heap h') (hok:HOk X.prog X.w H' h'):Inv X pins σ H' { s with heap:=h',toks:=t' }:=by
 obtain ⟨m,⟨o,es,ep,ho,r⟩,_⟩:=id I.loc
 obtain ⟨sl,hL⟩:=u.any ho I.free (by simp)
 exact I.step (g':=s.gens) (d':=s.drawn) (ch:=[]) (fun _ z => nomatch z) (fun b o _ hb _ e n => u.keep b o e n hb (by simp)) (fun b o _ hb _ e n => u.slot b o e n hb (by simp)) (fun b o _ e n => u.free b o e n (by simp)) (fun b o _ e => u.there b o e (by simp)) u.tups u.frzs u.tbls (fun m' hm => by
  obtain ⟨o',es',ep',ho',r'⟩:=hm
  rw [ho] at ho'; cases ho'
  exact ⟨_,es',ep',hL,r'⟩) hok I.bare
theorem Inv.call {g':Array GenState} {t':Nat} {d':Drawn} {ch:List Addr} (I:Inv X pins σ H s) (u:Un (frs X.stack) ch H H' s.heap h') (hok:HOk X.prog X.w H' h') (hg:AllBare g')
  (hch:∀ b ∈ ch,(b ∈ X.ex ∨ X.s₀.heap.objs.size ≤ b)∧b ≠ X.env.locals∧(∀ x c,X.env.cells.lookup x = some c→c ≠ b)∧∀ p ∈ X.pn ++ pins,p.1 ≠ b) :
  Inv X pins σ H' { s with heap:=h',gens:=g',drawn:=d',toks:=t' }:=by
 obtain ⟨m,⟨o,es,ep,ho,r⟩,_⟩:=id I.loc
 obtain ⟨sl,hL⟩:=u.any ho I.free fun z => (hch _ z).2.1 rfl
 exact I.step (ch:=ch) hch (fun b o hL hb hc e n => u.keep b o e n (fun z => (List.mem_cons.mp (I.stkSub b z)).elim hL hb) hc) (fun b o _ _ hc e n => u.any e n hc) (fun b o hc e n => u.free b o e n hc) (fun b o hc e => u.there b o e hc) u.tups u.frzs u.tbls (fun m' hm => by
  obtain ⟨o',es',ep',ho',r'⟩:=hm
  rw [ho] at ho'; cases ho'
  exact ⟨_,es',ep',hL,r'⟩) hok hg
theorem Inv.turned {t':Nat} {it:Addr} (I:Inv X pins σ H s) (k:∀ b o,b ≠ it→s.heap.get? b = some o→h'.get? b = some o) (hn:H it = none) (hL:it ≠ X.env.locals)
  (h1:it ∈ X.ex ∨ X.s₀.heap.objs.size ≤ it) (h2:∀ x c,X.env.cells.lookup x = some c→c ≠ it) (h3:∀ p ∈ X.pn ++ pins,p.1 ≠ it):Inv X pins σ H { s with heap:=h',toks:=t' }:=by
 have nit:∀ b u,H b = some u→b ≠ it:=fun b u e z => by rw [z,hn] at e; cases e
 refine I.step (g':=s.gens) (d':=s.drawn) (ch:=[it]) (fun b hb => ?_) (fun b o _ _ hc e _ => k b o (fun z => hc (by simp [z])) e) (fun b o _ _ hc e _ => ⟨o.slots,k b o (fun z => hc (by simp [z])) e⟩) (fun _ _ _ _ n => n)
  (fun b o hc e => ⟨o,k b o (fun z => hc (by simp [z])) e⟩) (fun _ _ e => e) (fun _ _ _ e => e) (fun b ps e => ⟨#[],by rw [e]; simp⟩) (fun m hm => ?_) (fun b u e => ?_) I.bare
 ·have e:b = it:=by simpa using hb
  subst e
  exact ⟨h1,hL,h2,h3⟩
 ·obtain ⟨o,es,ep,ho,r⟩:=hm
  exact ⟨o,es,ep,k _ o (Ne.symm hL) ho,r⟩
 ·refine (I.hok b u e).stay (fun c v hc q => k c v ?_ q) (fun _ q => q) fun _ _ q => q
  rcases hc with z | z
  ·rw [z]; exact nit b u e
  ·exact nit c _ z
theorem Inv.tok (I:Inv X pins σ H s) (t:Nat):Inv X pins σ H { s with toks:=t }:=I.un (h':=s.heap) (t':=t) Un.refl I.hok
theorem Inv.kept {t':Nat} (I:Inv X pins σ H s) (k:∀ b u,s.heap.get? b = some u→h'.get? b = some u):Inv X pins σ H { s with heap:=h',toks:=t' }:=I.un (Un.kept k) (I.hok.kept k)
theorem Inv.laid {a:Addr} {o:HO} {t':Nat} (I:Inv X pins σ H s) (k:∀ b u,s.heap.get? b = some u→h'.get? b = some u) (hp:s.heap.objs.size ≤ a) (new:ObjOk X.prog X.w (upd H a o) h' a o) :
  Inv X pins σ (upd H a o) { s with heap:=h',toks:=t' }:=I.un (Un.laid k hp (I.hok.fresh hp)) (I.hok.laid k hp new)
theorem Inv.write {x e:Addr} {o:HO} {t':Nat} (I:Inv X pins σ H s) (mu:Mut (H x)) (he:e = x ∨ H e = some (.own x)) (k:∀ b u,b ≠ e→s.heap.get? b = some u→h'.get? b = some u) (heo:∃ u,h'.get? e = some u)
  (new:ObjOk X.prog X.w (upd H x o) h' x o):Inv X pins σ (upd H x o) { s with heap:=h',toks:=t' }:=I.un (Un.write mu he k heo) (I.hok.write mu he k heo new)
theorem Inv.weak {σ':List (Option V)} (I:Inv X pins σ H s) (hl:σ'.length = σ.length) (w:∀ (i:Nat) v,σ'[i]? = some (some v)→σ[i]? = some (some v)):Inv X pins σ' H s :=
 ⟨I.ok,I.os,I.bare,I.base,let ⟨m,hn,hl'⟩:=I.loc; ⟨m,hn,fun i x v e1 e2 e3 => hl' i x v e1 (w i v e2) e3⟩,I.cell,I.free,I.freeC,I.pin,I.hok,hl.trans I.len⟩
theorem Inv.pins_of {pins':List (Addr × Obj)} (I:Inv X pins σ H s) (h:∀ p ∈ pins',s.heap.get? p.1 = some p.2∧H p.1 = none∧p.1 ≠ X.env.locals∧p.1 ∉ X.fs∧∀ v,p.2.data ≠ .cell v):Inv X pins' σ H s :=
 ⟨I.ok,I.os,I.bare,I.base,I.loc,I.cell,I.free,I.freeC,fun p hp => (List.mem_append.mp hp).elim (fun z => I.pin p (List.mem_append_left _ z)) (h p),I.hok,I.len⟩
theorem nodup_ix {N:List Str} (hN:N.Nodup) {i j:Nat} {x:Str} (a:N[i]? = some x) (b:N[j]? = some x):i = j:=by
 obtain ⟨h1,e1⟩:=List.getElem?_eq_some_iff.mp a
 obtain ⟨h2,e2⟩:=List.getElem?_eq_some_iff.mp b
 exact (List.getElem_inj hN).mp (e1.trans e2.symm)
theorem store_ok2 {M:Model} {A:Around} {E:Value→Shared→Prop} {i:Nat} {x:Str} {v:V} {u:Value} {Q:Unit→Shared→Prop} (I:Inv X pins σ H s) (hN:X.N.Nodup) (hi:X.N[i]? = some x) (hx:Loc X.env.scope x) (r:RelV v u)
  (h:∀ s',Inv X pins (σ.set i (some v)) H s'→(∃ a,Heap.SameBut a s.heap s'.heap∧(a = X.env.locals ∨ X.env.cells.lookup x = some a))→Q () s') (hf:X.fn x = true ∨ X.env.scope.names.lookup x = some .local:=by first | exact .inl rfl | exact .inr rfl | assumption):wpAny M A (storeName X.env x u) Q E s:=by
 obtain ⟨m,hn,hl⟩:=id I.loc
 have hcls:(X.env.scope.kind == .class || (X.env.scope.kind == .module && X.env.locals != X.env.globals)) = false:=by rw [I.ok.kind]; rfl
 have hiσ:i < σ.length:=by rw [I.len]; exact (List.getElem?_eq_some_iff.mp hi).1
 have cne:=I.cne
 have tracked:∀ {a:Addr} {h':Heap},(∃ o,s.heap.get? a = some o∧H a = none)→Heap.SameBut a s.heap h'→HOk X.prog X.w H h':=fun {a h'} ha hs b ob e => by
  obtain ⟨_,_,hfree⟩:=ha
  refine (I.hok b ob e).stay (fun c w' hc q => (hs.2 c ?_).trans q) (fun _ q => q) fun _ _ q => q
  rintro rfl
  rcases hc with rfl | hc
  ·rw [hfree] at e; cases e
  ·rw [hfree] at hc; cases hc
 rcases hx with hk | hk
 ·refine wpAny_storeName_local hk hn (fun h' hn' hs => ?_) hcls
  obtain ⟨oL,_,_,hoL,_⟩:=id hn
  refine h _ ⟨I.ok,I.os,I.bare,⟨fun b o e n hb hx => ?_,fun b o e n hb hx => ?_,I.base.free,fun b o e hx => ?_,I.base.tups,I.base.frzs,I.base.tbls⟩,⟨_,hn',fun j y v' e1 e2 e3 => ?_⟩,fun y c e => ?_,I.free,I.freeC,fun p hp => ?_,tracked ⟨oL,hoL,I.free⟩ hs,by simpa using I.len⟩ ⟨_,hs,.inl rfl⟩
  ·exact (hs.2 b (Nat.ne_of_lt (Nat.lt_of_lt_of_le (Heap.lt_size e) I.ok.above))).trans (I.base.keep b o e n hb hx)
  ·obtain ⟨sl,e1⟩:=I.base.slot b o e n hb hx
   exact ⟨sl,(hs.2 b (Nat.ne_of_lt (Nat.lt_of_lt_of_le (Heap.lt_size e) I.ok.above))).trans e1⟩
  ·obtain ⟨o',e1⟩:=I.base.there b o e hx
   exact ⟨o',(hs.2 b (Nat.ne_of_lt (Nat.lt_of_lt_of_le (Heap.lt_size e) I.ok.above))).trans e1⟩
  ·by_cases hj:j = i
   ·subst hj
    rw [hi] at e1; cases e1
    rw [List.getElem?_set_self hiσ] at e2
    cases e2
    exact ⟨u,r,.inl ⟨hk,by simp⟩⟩
   ·rw [List.getElem?_set_ne (Ne.symm hj)] at e2
    obtain ⟨u',r',q⟩:=hl j y v' e1 e2 e3
    refine ⟨u',r',?_⟩
    rcases q with ⟨k,e⟩ | ⟨k,c,e,z⟩
    ·refine .inl ⟨k,?_⟩
     have:y ≠ x:=fun e => hj (nodup_ix hN e1 (e ▸ hi))
     simp [this,e]
    ·exact .inr ⟨k,c,e,z.sameBut hs (cne y c e)⟩
  ·obtain ⟨w',z⟩:=I.cell y c e
   exact ⟨w',z.sameBut hs (cne y c e)⟩
  ·obtain ⟨e,n,ne,nf,d⟩:=I.pin p hp
   exact ⟨(hs.2 p.1 ne).trans e,n,ne,nf,d⟩
 ·have hfn:X.fn x = true:=by
   rcases hf with z | z
   ·exact z
   ·rw [z] at hk; cases hk
  obtain ⟨c,hc⟩:=I.ok.has x (.inl hk)
  obtain ⟨w',z⟩:=I.cell x c hc
  refine wpAny_storeName_cell I.ok.kind hk hc z (fun h' hc' hs => ?_)
  obtain ⟨oc,hoc,hocd⟩:=id z
  refine h { s with heap:=h' } ⟨I.ok,I.os,I.bare,⟨fun b o e n hb hx => ?_,fun b o e n hb hx => ?_,I.base.free,fun b o e hx => ?_,I.base.tups,I.base.frzs,I.base.tbls⟩,⟨m,hn.sameBut hs (Ne.symm (cne x c hc)),fun j y v' e1 e2 e3 => ?_⟩,fun y c' e => ?_,I.free,I.freeC,fun p hp => ?_,tracked ⟨oc,hoc,I.freeC x c hc⟩ hs,by simpa using I.len⟩ ⟨c,hs,.inr hc⟩
  ·exact (hs.2 b (Nat.ne_of_lt (Nat.lt_of_lt_of_le (Heap.lt_size e) (I.ok.cab x c hfn hc)))).trans (I.base.keep b o e n hb hx)
  ·obtain ⟨sl,e1⟩:=I.base.slot b o e n hb hx
   exact ⟨sl,(hs.2 b (Nat.ne_of_lt (Nat.lt_of_lt_of_le (Heap.lt_size e) (I.ok.cab x c hfn hc)))).trans e1⟩
  ·obtain ⟨o',e1⟩:=I.base.there b o e hx
   exact ⟨o',(hs.2 b (Nat.ne_of_lt (Nat.lt_of_lt_of_le (Heap.lt_size e) (I.ok.cab x c hfn hc)))).trans e1⟩
  ·by_cases hj:j = i
   ·subst hj
    rw [hi] at e1; cases e1
    rw [List.getElem?_set_self hiσ] at e2
    cases e2
    exact ⟨u,r,.inr ⟨.inl hk,c,hc,hc'⟩⟩
   ·rw [List.getElem?_set_ne (Ne.symm hj)] at e2
    obtain ⟨u',r',q⟩:=hl j y v' e1 e2 e3
    refine ⟨u',r',?_⟩
    rcases q with q | ⟨k,c',e,z'⟩
    ·exact .inl q
    ·refine .inr ⟨k,c',e,z'.sameBut hs ?_⟩
     rintro rfl
     exact hj (nodup_ix hN e1 (I.ok.inj _ _ _ e hc ▸ hi))
  ·by_cases hcc:c' = c
   ·subst hcc; exact ⟨_,hc'⟩
   ·obtain ⟨w2,z2⟩:=I.cell y c' e
    exact ⟨w2,z2.sameBut hs hcc⟩
  ·obtain ⟨e,n,ne,nf,d⟩:=I.pin p hp
   refine ⟨(hs.2 p.1 ?_).trans e,n,ne,nf,d⟩
   intro q
   rw [q,hoc] at e
   have q':oc = p.2:=Option.some.inj e
   exact d w' (by rw [← q']; exact hocd)
theorem store_ok {M:Model} {A:Around} {E:Value→Shared→Prop} {i:Nat} {x:Str} {v:V} {u:Value} {Q:Unit→Shared→Prop} (I:Inv X pins σ H s) (hN:X.N.Nodup) (hi:X.N[i]? = some x) (hx:Loc X.env.scope x) (r:RelV v u)
  (h:∀ s',Inv X pins (σ.set i (some v)) H s'→Q () s') (hf:X.fn x = true ∨ X.env.scope.names.lookup x = some .local:=by first | exact .inl rfl | exact .inr rfl | assumption):wpAny M A (storeName X.env x u) Q E s :=
 store_ok2 I hN hi hx r (fun s' I' _ => h s' I') hf
theorem Inv.call' {s':Shared} {ch:List Addr} (I:Inv X pins σ H s) (ho:s'.os = s.os) (u:Un (frs X.stack) ch H H' s.heap s'.heap) (hok:HOk X.prog X.w H' s'.heap) (hg:AllBare s'.gens)
  (hch:∀ b ∈ ch,(b ∈ X.ex ∨ X.s₀.heap.objs.size ≤ b)∧b ≠ X.env.locals∧(∀ x c,X.env.cells.lookup x = some c→c ≠ b)∧∀ p ∈ X.pn ++ pins,p.1 ≠ b):Inv X pins σ H' s':=by
 obtain ⟨h',g',d',t',o'⟩:=s'
 have e:o' = s.os:=ho
 subst e
 exact I.call (g':=g') (t':=t') (d':=d') u hok hg hch
end
noncomputable abbrev XK:=Value→Option Addr→Hp→Prop
noncomputable abbrev St:=List (Option V)
noncomputable abbrev VK:=V→Hp→Prop
noncomputable abbrev TE:=St→Hp→VK→Prop
noncomputable abbrev TT:=St→Hp→(Bool→Hp→Prop)→Prop
noncomputable abbrev TA:=St→Hp→(List V→Hp→Prop)→Prop
structure Ends where
 nx:St→Hp→Prop
 rt:VK
 bk:St→Hp→Prop:=fun _ _ => False
 ct:St→Hp→Prop:=fun _ _ => False
noncomputable abbrev TS:=Ends→St→Hp→Prop
noncomputable def EP (X:Cx) (pins:List (Addr × Obj)) (σ:St) (Q:VK) (u:Value) (s':Shared):Prop:=∃ v H',Inv X pins σ H' s'∧RelV v u∧Q v H'
noncomputable def TP (X:Cx) (pins:List (Addr × Obj)) (σ:St) (Q:Bool→Hp→Prop) (b:Bool) (s':Shared):Prop:=∃ H',Inv X pins σ H' s'∧Q b H'
noncomputable def AP (X:Cx) (pins:List (Addr × Obj)) (σ:St) (Q:List V→Hp→Prop) (us:List Value) (s':Shared):Prop:=∃ vs H',Inv X pins σ H' s'∧Vals vs us∧Q vs H'
noncomputable def SP (X:Cx) (pins:List (Addr × Obj)) (D:Ends) (f:Flow) (s':Shared):Prop :=
 match f with
 | .next => ∃ σ' H',Inv X pins σ' H' s'∧D.nx σ' H'
 | .brk => ∃ σ' H',Inv X pins σ' H' s'∧D.bk σ' H'
 | .cont => ∃ σ' H',Inv X pins σ' H' s'∧D.ct σ' H'
 | .ret u => ∃ v σ' H',Inv X pins σ' H' s'∧RelV v u∧D.rt v H'
noncomputable def PE (X:Cx) (e:Expr) (t:TE):Prop :=
 ∀ (pins:List (Addr × Obj)) (s:Shared) (σ:St) (H:Hp) (Q:VK),Inv X pins σ H s→t σ H Q→wpAny (model X.prog X.w) X.A (eval e X.env) (EP X pins σ Q) X.xe s
noncomputable def PT (X:Cx) (e:Expr) (t:TT):Prop :=
 ∀ (pins:List (Addr × Obj)) (s:Shared) (σ:St) (H:Hp) (Q:Bool→Hp→Prop),Inv X pins σ H s→t σ H Q→wpAny (model X.prog X.w) X.A (isTrue e X.env (eval e X.env)) (TP X pins σ Q) X.xe s
noncomputable def PW (X:Cx) (e:Expr) (t:TT):Prop :=
 ∀ (whole:Sem Value) (pins:List (Addr × Obj)) (s:Shared) (σ:St) (H:Hp) (Q:Bool→Hp→Prop),Inv X pins σ H s→t σ H Q→wpAny (model X.prog X.w) X.A (isTrue e X.env whole) (TP X pins σ Q) X.xe s
theorem PW.pt {X:Cx} {e:Expr} {t:TT} (h:PW X e t):PT X e t:=h _
noncomputable def PA (X:Cx) (es:List Expr) (t:TA):Prop :=
 ∀ (pos:Pos) (pins:List (Addr × Obj)) (s:Shared) (σ:St) (H:Hp) (Q:List V→Hp→Prop),Inv X pins σ H s→t σ H Q→wpAny (model X.prog X.w) X.A (spliced (backTo pos (starEach es X.env))) (AP X pins σ Q) X.xe s
noncomputable def PS (X:Cx) (st:Stmt) (t:TS):Prop :=
 ∀ (pins:List (Addr × Obj)) (s:Shared) (σ:St) (H:Hp) (D:Ends),Inv X pins σ H s→t D σ H→wpAny (model X.prog X.w) X.A (exec st X.env) (SP X pins D) X.xe s
noncomputable def PSs (X:Cx) (st:List Stmt) (t:TS):Prop :=
 ∀ (pins:List (Addr × Obj)) (s:Shared) (σ:St) (H:Hp) (D:Ends),Inv X pins σ H s→t D σ H→wpAny (model X.prog X.w) X.A (execs st X.env) (SP X pins D) X.xe s
theorem thn {α:Type} {t:Sem α} {Q Q':α→Shared→Prop} {M:Model} {A:Around} {E:Value→Shared→Prop} {s:Shared} (h:wpAny M A t Q E s) (hQ:∀ a s,Q a s→Q' a s):wpAny M A t Q' E s:=wpAny_mono h hQ fun _ _ x => x
end L2
namespace L2
open PySem PySem.Spec PyProof.Rows
section
variable {X:Cx}
noncomputable def tVar (i:Nat):TE:=fun σ H Q => ∃ v,σ[i]? = some (some v)∧Q v H
noncomputable def tC (v:V):TE:=fun _ H Q => Q v H
theorem pe_var {i:Nat} {x:Str} {pos:Pos} (hN:X.N[i]? = some x) (hv:Vis X.env.scope x) (hd:(x == ("__debug__":Str)) = false:=by decide) (hcd:(x == ("__classdict__":Str)) = false:=by decide):PE X (.Name x pos) (tVar i):=by
 intro pins s σ H Q I h
 obtain ⟨v,e,h⟩:=h
 obtain ⟨m,hn,hl⟩:=I.loc
 obtain ⟨u,r,l⟩:=hl i x v hN e hv
 have fin:EP X pins σ Q u s:=⟨v,H,I,r,h⟩
 rcases l with ⟨hk,hm⟩ | ⟨hk,c,hc,hcell⟩
 ·exact wpAny_Name (wpAny_loadName_local I.ok.kind hk hn hm fin) hd
 ·rcases hk with hk | hk
  ·exact wpAny_Name (wpAny_loadName_cell I.ok.kind hk hc hcell fin) hd
  ·exact wpAny_Name (wpAny_loadName_free I.ok.kind hk hc hcell fin hcd) hd
theorem pe_int {i j pos}:PE X (.Constant (.int i) j pos) (tC (.int i)):=fun _ _ _ H _ I h => wpAny_Constant_int ⟨.int i,H,I.tok _,⟨_,rfl⟩,h⟩
theorem pe_bl {b j pos}:PE X (.Constant (.bool b) j pos) (tC (.bl b)):=fun _ _ _ H _ I h => Constant_bool ⟨.bl b,H,I,rfl,h⟩
theorem pe_non {j pos}:PE X (.Constant .none j pos) (tC .non):=fun _ _ _ H _ I h => Constant_none ⟨.non,H,I,rfl,h⟩
theorem pe_str {x j pos}:PE X (.Constant (.str x) j pos) (tC (.str x)):=fun _ _ _ H _ I h => Calls.Constant_str ⟨.str x,H,I.tok _,⟨_,rfl⟩,h⟩
noncomputable def Gl (X:Cx) (x:Str):Prop:=X.env.kindOf x = some .globalImplicit
theorem ld_glob {E:Value→Shared→Prop} {pins:List (Addr × Obj)} {s:Shared} {σ:St} {H:Hp} {x:Str} {u:Value} {pos:Pos} {Q:Value→Shared→Prop} (I:Inv X pins σ H s) (hg:Gl X x) (hm:X.mg x = some u) (h:Q u s)
  (hd:(x == ("__debug__":Str)) = false:=by decide):wpAny (model X.prog X.w) X.A (eval (.Name x pos) X.env) Q E s :=
 Calls.Name_function_global I.ok.kind hg (Calls.loadGlobal_global (by rw [I.ok.glob]; exact I.mod.glob.keeps I.bk) hm h) hd
theorem ld_blt {E:Value→Shared→Prop} {pins:List (Addr × Obj)} {s:Shared} {σ:St} {H:Hp} {x:Str} {u:Value} {pos:Pos} {Q:Value→Shared→Prop} (I:Inv X pins σ H s) (hg:Gl X x) (hm:X.mg x = none) (hv:bootBuiltins x = some u) (h:Q u s)
  (hn:x ≠ "__name__":=by decide) (hd:(x == ("__debug__":Str)) = false:=by decide):wpAny (model X.prog X.w) X.A (eval (.Name x pos) X.env) Q E s:=by
 obtain ⟨mb,h1,h2⟩:=I.mod.blt
 exact Calls.Name_function_global I.ok.kind hg (Calls.loadGlobal_builtin (by rw [I.ok.glob]; exact I.mod.glob.keeps I.bk) hm (by rw [I.ok.blt]; exact h1.keeps I.bk) ((h2 x hn).trans hv) h) hd
theorem pe_glob {x:Str} {v:V} {u:Value} {pos:Pos} (hg:Gl X x) (hm:X.mg x = some u) (r:RelV v u) (hd:(x == ("__debug__":Str)) = false:=by decide):PE X (.Name x pos) (tC v) :=
 fun _ _ _ H _ I h => ld_glob I hg hm ⟨v,H,I,r,h⟩ hd
theorem pe_bltn {x:Str} {v:V} {u:Value} {pos:Pos} (hg:Gl X x) (hm:X.mg x = none) (hv:bootBuiltins x = some u) (r:RelV v u) (hn:x ≠ "__name__":=by decide) (hd:(x == ("__debug__":Str)) = false:=by decide):PE X (.Name x pos) (tC v) :=
 fun _ _ _ H _ I h => ld_blt I hg hm hv ⟨v,H,I,r,h⟩ hn hd
variable {a b:Expr} {ta tb:TE} {pos:Pos}
noncomputable def tB (t:TE):TT:=fun σ H Q => t σ H fun x H1 => ∃ c,x = .bl c∧Q c H1
theorem pt_val {e:Expr} {t:TE} (h:PE X e t) (he:∀ whole,isTrue e X.env whole = (do let v ← whole; standAt e.pos; holding [v] (truthy v)):=by intro _; rfl):PT X e (tB t):=by
 intro pins s σ H Q I hw
 refine isTrue_plain (thn (h pins s σ H _ I hw) fun v s1 ⟨x,H1,I1,r1,q1⟩ => ?_) (he _)
 obtain ⟨d,rfl,q⟩:=q1
 cases r1
 exact wpAny_truthy_bool ⟨H1,I1,q⟩
variable {tA tB':TT} {rest:List Expr}
noncomputable def tAnd (t u:TT):TT:=fun σ H Q => t σ H fun c H1 => if c = true then u σ H1 Q else Q false H1
noncomputable def tOr (t u:TT):TT:=fun σ H Q => t σ H fun c H1 => if c = true then Q true H1 else u σ H1 Q
noncomputable def tNot (t:TT):TT:=fun σ H Q => t σ H fun c H1 => Q (!c) H1
theorem pw_and1 (ha:PT X a tA):PW X (.BoolOp .And [a] pos) tA:=by
 intro wh pins s σ H Q I h
 refine isTrue_and (thn (ha pins s σ H Q I h) fun c s1 e => ?_)
 cases c with
 | true => exact isTrue_and_nil e
 | false => exact e
theorem pw_or1 (ha:PT X a tA):PW X (.BoolOp .Or [a] pos) tA:=by
 intro wh pins s σ H Q I h
 refine isTrue_or (thn (ha pins s σ H Q I h) fun c s1 e => ?_)
 cases c with
 | false => exact isTrue_or_nil e
 | true => exact e
theorem pw_and (ha:PT X a tA) (hb:PW X (.BoolOp .And (b :: rest) pos) tB'):PW X (.BoolOp .And (a :: b :: rest) pos) (tAnd tA tB'):=by
 intro wh pins s σ H Q I h
 refine isTrue_and (thn (ha pins s σ H _ I h) fun c s1 ⟨H1,I1,q1⟩ => ?_)
 cases c with
 | true => exact hb wh pins s1 σ H1 Q I1 q1
 | false => exact ⟨H1,I1,q1⟩
theorem pw_or (ha:PT X a tA) (hb:PW X (.BoolOp .Or (b :: rest) pos) tB'):PW X (.BoolOp .Or (a :: b :: rest) pos) (tOr tA tB'):=by
 intro wh pins s σ H Q I h
 refine isTrue_or (thn (ha pins s σ H _ I h) fun c s1 ⟨H1,I1,q1⟩ => ?_)
 cases c with
 | true => exact ⟨H1,I1,q1⟩
 | false => exact hb wh pins s1 σ H1 Q I1 q1
theorem pt_not (ha:PT X a tA):PT X (.UnaryOp .Not a pos) (tNot tA):=by
 intro pins s σ H Q I h
 exact isTrue_not (ha pins s σ H (fun c H1 => Q (!c) H1) I h)
noncomputable def tAndV (ta tb:TE):TE:=fun σ H Q => ta σ H fun x H1 => ∃ c,x = .bl c∧if c = true then tb σ H1 Q else Q (.bl false) H1
noncomputable def tNotV (ta:TE):TE:=fun σ H Q => ta σ H fun x H1 => ∃ c,x = .bl c∧Q (.bl (!c)) H1
theorem pe_one {op} {t:TE} (h:PE X a t):PE X (.BoolOp op [a] pos) t:=fun pins s σ H Q I hw => BoolOp_one (h pins s σ H Q I hw)
theorem pe_and (ha:PE X a ta) (hb:PE X (.BoolOp .And (b :: rest) pos) tb):PE X (.BoolOp .And (a :: b :: rest) pos) (tAndV ta tb):=by
 intro pins s σ H Q I h
 refine BoolOp_and (thn (ha pins s σ H _ I h) fun v s1 ⟨x,H1,I1,r1,q1⟩ => ?_)
 obtain ⟨c,rfl,q1⟩:=q1
 cases r1
 refine wpAny_truthy_bool ?_
 cases c with
 | true => exact hb pins s1 σ H1 Q I1 q1
 | false => exact ⟨.bl false,H1,I1,rfl,q1⟩
theorem pe_not (ha:PE X a ta):PE X (.UnaryOp .Not a pos) (tNotV ta):=by
 intro pins s σ H Q I h
 refine UnaryOp_ (thn (ha pins s σ H _ I h) fun v s1 ⟨x,H1,I1,r1,q1⟩ => ?_)
 obtain ⟨c,rfl,q1⟩:=q1
 cases r1
 exact not_of (wpAny_truthy_bool ⟨.bl (!c),H1,I1,rfl,q1⟩)
noncomputable def tIf (t:TT) (ta tb:TE):TE:=fun σ H Q => t σ H fun c H1 => if c = true then ta σ H1 Q else tb σ H1 Q
theorem pe_ifExp {c:Expr} (hc:PT X c tA) (ha:PE X a ta) (hb:PE X b tb):PE X (.IfExp c a b pos) (tIf tA ta tb):=by
 intro pins s σ H Q I h
 refine wpAny_IfExp (thn (hc pins s σ H _ I h) fun d s1 ⟨H1,I1,q1⟩ => ?_)
 cases d with
 | true => exact ha pins s1 σ H1 Q I1 q1
 | false => exact hb pins s1 σ H1 Q I1 q1
end
end L2
namespace L2
open PySem PySem.Spec PyProof.Rows
noncomputable def SqL (K:PySem.W.Frag) (H:Hp) (a:Addr) (xs:List V):Prop :=
 Rd H a (.lst xs) ∨
  ∃ (o:Obj) (its:Array Value) (n:Nat),K.lookup a = some o∧o.cls = .type "list"∧o.dict = none∧o.data = .seq its n∧its.size ≤ sizeLine∧Vals xs its.toList
noncomputable def SqT (K:PySem.W.Frag) (H:Hp) (a:Addr) (xs:List V):Prop :=
 Rd H a (.tup xs) ∨
  ∃ (o:Obj) (its:Array Value) (n:Nat),K.lookup a = some o∧o.cls = .type "tuple"∧o.data = .seq its n∧its.size ≤ sizeLine∧Vals xs its.toList
noncomputable def absV:Value→Option V
 | .none => some .non
 | .bool b => some (.bl b)
 | .int i _ => some (.int i)
 | .str x _ => some (.str x)
 | .bytes b _ => some (.byt b)
 | .float b _ => some (.flt b)
 | .ref a => some (.ref a)
 | .type n => some (.ty n)
 | _ => none
theorem RelV.abs {x:V} {u:Value} (r:RelV x u):absV u = some x:=by
 cases x with
 | non => cases r; rfl
 | bl _ => cases r; rfl
 | int _ => obtain ⟨t,rfl⟩:=r; rfl
 | str _ => obtain ⟨t,rfl⟩:=r; rfl
 | byt _ => obtain ⟨t,rfl⟩:=r; rfl
 | flt _ => obtain ⟨t,rfl⟩:=r; rfl
 | ref _ => cases r; rfl
 | ty _ => cases r; rfl
theorem RelV.inj {x y:V} {u:Value} (r:RelV x u) (q:RelV y u):x = y:=Option.some.inj (r.abs.symm.trans q.abs)
theorem Vals.inj:∀ {xs ys:List V} {us:List Value},Vals xs us→Vals ys us→xs = ys
 | _,_,_,.nil,.nil => rfl
 | _,_,_,.cons r t,.cons r' t' => by rw [r.inj r',Vals.inj t t']
section
variable {X:Cx} {pins:List (Addr × Obj)} {σ:St} {H:Hp} {s:Shared} {a:Addr} {xs ys:List V}
theorem SqL.of {K:PySem.W.Frag} (h:H a = some (.lst xs)):SqL K H a xs:=.inl (.inl h)
theorem SqT.of {K:PySem.W.Frag} (h:H a = some (.tup xs)):SqT K H a xs:=.inl (.inl h)
theorem Inv.list (I:Inv X pins σ H s) (h:SqL X.K H a xs):∃ its:List Value,Vals xs its∧PlainL s.heap a its.toArray∧xs.length ≤ sizeLine:=by
 rcases h with h | ⟨o,its,n,hk,hc,hd,hs,hz,r⟩
 ·obtain ⟨z,its,n,r,e⟩:=h.ok I.hok
  exact ⟨its,r,⟨_,n,e,rfl,rfl,rfl⟩,z⟩
 ·refine ⟨its.toList,r,⟨o,n,I.kIn a o hk,hc,hd,by simpa using hs⟩,?_⟩
  have e:=r.length
  simp only [Array.length_toList] at e
  omega
theorem Inv.tuple (I:Inv X pins σ H s) (h:SqT X.K H a xs):∃ its:List Value,Vals xs its∧IsTup s.heap a its.toArray∧xs.length ≤ sizeLine:=by
 rcases h with h | ⟨o,its,n,hk,hc,hs,hz,r⟩
 ·obtain ⟨z,its,r,p⟩:=h.ok I.hok
  exact ⟨its,r,p,z⟩
 ·refine ⟨its.toList,r,⟨o,I.kIn a o hk,hc,n,by simpa using hs⟩,?_⟩
  have e:=r.length
  simp only [Array.length_toList] at e
  omega
theorem Inv.list_inj (I:Inv X pins σ H s) (h:SqL X.K H a xs) (h':SqL X.K H a ys):xs = ys:=by
 obtain ⟨its,r,⟨o,n,e,_,_,d⟩,_⟩:=I.list h
 obtain ⟨its',r',⟨o',n',e',_,_,d'⟩,_⟩:=I.list h'
 rw [e] at e'; cases e'
 rw [d] at d'
 injection d' with d1 _
 have:its = its':=by simpa using congrArg Array.toList d1
 subst this
 exact r.inj r'
theorem Inv.tuple_inj (I:Inv X pins σ H s) (h:SqT X.K H a xs) (h':SqT X.K H a ys):xs = ys:=by
 obtain ⟨its,r,⟨o,e,_,n,d⟩,_⟩:=I.tuple h
 obtain ⟨its',r',⟨o',e',_,n',d'⟩,_⟩:=I.tuple h'
 rw [e] at e'; cases e'
 rw [d] at d'
 injection d' with d1 _
 have:its = its':=by simpa using congrArg Array.toList d1
 subst this
 exact r.inj r'
end
noncomputable abbrev Cx.wish (X:Cx) (E:Value→Shared→Prop):Cx:={ X with xe:=E }
noncomputable abbrev Cx.nox (X:Cx):Cx:=X.wish fun _ _ => False
theorem Cx.Ok.wish {X:Cx} (ok:X.Ok) (E:Value→Shared→Prop):(X.wish E).Ok :=
 ⟨ok.mod,ok.kind,ok.glob,ok.blt,ok.above,ok.inj,ok.has,ok.cab,ok.hd,ok.frames,ok.stk,ok.exf,ok.bs,ok.bsz,ok.noex,ok.exfs,ok.funs,ok.frf⟩
theorem Cx.Ok.unwish {X:Cx} {E:Value→Shared→Prop} (ok:(X.wish E).Ok):X.Ok :=
 ⟨ok.mod,ok.kind,ok.glob,ok.blt,ok.above,ok.inj,ok.has,ok.cab,ok.hd,ok.frames,ok.stk,ok.exf,ok.bs,ok.bsz,ok.noex,ok.exfs,ok.funs,ok.frf⟩
section
variable {X:Cx} {pins:List (Addr × Obj)} {σ:St} {H:Hp} {s:Shared} {E:Value→Shared→Prop}
theorem Inv.wish (I:Inv X pins σ H s) (E:Value→Shared→Prop):Inv (X.wish E) pins σ H s:=⟨I.ok.wish E,I.os,I.bare,I.base,I.loc,I.cell,I.free,I.freeC,I.pin,I.hok,I.len⟩
theorem Inv.unwish (I:Inv (X.wish E) pins σ H s):Inv X pins σ H s:=⟨I.ok.unwish,I.os,I.bare,I.base,I.loc,I.cell,I.free,I.freeC,I.pin,I.hok,I.len⟩
theorem SP.unwish {D:Ends} {f:Flow} {s':Shared} (h:SP (X.wish E) pins D f s'):SP X pins D f s':=by
 cases f with
 | next => obtain ⟨σ',H',I,q⟩:=h; exact ⟨σ',H',I.unwish,q⟩
 | brk => obtain ⟨σ',H',I,q⟩:=h; exact ⟨σ',H',I.unwish,q⟩
 | cont => obtain ⟨σ',H',I,q⟩:=h; exact ⟨σ',H',I.unwish,q⟩
 | ret u => obtain ⟨v,σ',H',I,r,q⟩:=h; exact ⟨v,σ',H',I.unwish,r,q⟩
theorem PSs.nox {st:List Stmt} {t:TS} (h:PSs X.nox st t):PSs X st t:=fun pins s σ H D I hw =>
 wpAny_mono (h pins s σ H D (I.wish _) hw) (fun _ _ q => q.unwish) fun _ _ z => False.elim z
end
section
variable {X:Cx} {st:Stmt} {rest:List Stmt} {t u:TS} {e:Expr} {te:TE} {pos:Pos}
noncomputable def tNext:TS:=fun D σ H => D.nx σ H
noncomputable def tSeq (t u:TS):TS:=fun D σ H => t { D with nx:=u D } σ H
theorem pss_nil:PSs X [] tNext:=fun _ _ σ H _ I h => wpAny_execs_nil ⟨σ,H,I,h⟩
theorem pss_cons (h1:PS X st t) (h2:PSs X rest u):PSs X (st :: rest) (tSeq t u):=by
 intro pins s σ H D I h
 refine wpAny_execs_cons (thn (h1 pins s σ H { D with nx:=u D } I h) fun f s1 q => ?_)
 cases f with
 | next =>
  obtain ⟨σ',H',I',q⟩:=q
  exact h2 pins s1 σ' H' D I' q
 | ret v => exact q
 | brk => exact q
 | cont => exact q
theorem pss_one (h1:PS X st t):PSs X [st] t:=by
 intro pins s σ H D I h
 refine wpAny_execs_cons (thn (h1 pins s σ H D I h) fun f s1 q => ?_)
 cases f with
 | next => exact wpAny_execs_nil q
 | ret v => exact q
 | brk => exact q
 | cont => exact q
theorem Inv.quiet {pins:List (Addr × Obj)} {σ:St} {H:Hp} {s:Shared} (I:Inv X pins σ H s):interactive X.env = false:=by simp [interactive,I.ok.kind]
noncomputable def tDrop (te:TE):TS:=fun D σ H => te σ H fun _ H1 => D.nx σ H1
theorem ps_expr (he:PE X e te) (hs:swapsWith e none pos.line X.env = pure false:=by rfl):PS X (.Expr e pos) (tDrop te):=by
 intro pins s σ H D I h
 exact wpAny_Expr_any (thn (he pins s σ H _ I h) fun v s1 ⟨x,H1,I1,r1,q1⟩ => ⟨σ,H1,I1,q1⟩) I.quiet hs
noncomputable def tRet (te:TE):TS:=fun D σ H => te σ H D.rt
theorem ps_ret (he:PE X e te):PS X (.Return (some e) pos) (tRet te):=by
 intro pins s σ H D I h
 exact wpAny_Return_some (thn (he pins s σ H _ I h) fun v s1 ⟨x,H1,I1,r1,q1⟩ => ⟨x,σ,H1,I1,r1,q1⟩)
noncomputable def tIfS (c:TT) (t u:TS):TS:=fun D σ H => c σ H fun b H1 => if b = true then t D σ H1 else u D σ H1
theorem ps_if {c:Expr} {a b:List Stmt} {tc:TT} (hc:PT X c tc) (ha:PSs X a t) (hb:PSs X b u):PS X (.If c a b pos) (tIfS tc t u):=by
 intro pins s σ H D I h
 refine wpAny_If (thn (hc pins s σ H _ I h) fun d s1 ⟨H1,I1,q1⟩ => ?_)
 cases d with
 | true => exact ha pins s1 σ H1 D I1 q1
 | false => exact hb pins s1 σ H1 D I1 q1
noncomputable def tNever:TS:=fun _ _ _ => False
theorem pss_never {sts:List Stmt}:PSs X sts tNever:=fun _ _ _ _ _ _ h => h.elim
end
noncomputable abbrev TG:=V→St→Hp→(St→Hp→Prop)→Prop
noncomputable abbrev TGs:=List V→St→Hp→(St→Hp→Prop)→Prop
noncomputable def PG (X:Cx) (target:Expr) (t:TG):Prop :=
 ∀ (pins:List (Addr × Obj)) (s:Shared) (σ:St) (H:Hp) (v:V) (u:Value) (Q:St→Hp→Prop),Inv X pins σ H s→RelV v u→t v σ H Q →
  wpAny (model X.prog X.w) X.A (assign target X.env u) (fun _ s' => ∃ σ' H',Inv X pins σ' H' s'∧Q σ' H') X.xe s
noncomputable def PGs (X:Cx) (ts:List Expr) (t:TGs):Prop :=
 ∀ (pins:List (Addr × Obj)) (s:Shared) (σ:St) (H:Hp) (vs:List V) (us:List Value) (Q:St→Hp→Prop),Inv X pins σ H s→Vals vs us→t vs σ H Q →
  wpAny (model X.prog X.w) X.A (assignInOrder ((assignEach ts X.env).map (·.2)) us) (fun _ s' => ∃ σ' H',Inv X pins σ' H' s'∧Q σ' H') X.xe s
noncomputable abbrev TSet:=V→V→V→Hp→(Hp→Prop)→Prop
noncomputable def PSet (X:Cx) (t:TSet):Prop :=
 ∀ (pins:List (Addr × Obj)) (s:Shared) (σ:St) (H:Hp) (o i v:V) (ov iv u:Value) (Q:Hp→Prop),Inv X pins σ H s→RelV o ov→RelV i iv→RelV v u→t o i v H Q →
  wpAny (model X.prog X.w) X.A (setItem ov iv u) (fun _ s' => ∃ H',Inv X pins σ H' s'∧Q H') X.xe s
noncomputable abbrev TIp:=V→V→Hp→VK→Prop
noncomputable def PIp (X:Cx) (op:Operator) (t:TIp):Prop :=
 ∀ (pins:List (Addr × Obj)) (s:Shared) (σ:St) (H:Hp) (x y:V) (v u:Value) (Q:VK),Inv X pins σ H s→RelV x v→RelV y u→t x y H Q →
  wpAny (model X.prog X.w) X.A (inplaceOp op v u) (EP X pins σ Q) X.xe s
section
variable {X:Cx} {pos:Pos}
noncomputable def gName (i:Nat):TG:=fun v σ H Q => Q (σ.set i (some v)) H
theorem pg_name {i:Nat} {x:Str} (hN:X.N.Nodup) (hi:X.N[i]? = some x) (hx:Loc X.env.scope x) (hf:X.fn x = true ∨ X.env.scope.names.lookup x = some .local:=by first | exact .inl rfl | exact .inr rfl | assumption):PG X (.Name x pos) (gName i):=by
 intro pins s σ H v u Q I r h
 exact wpAny_assign_Name (store_ok I hN hi hx r (fun s' I' => ⟨_,H,I',h⟩) hf)
noncomputable def gNil:TGs:=fun vs σ H Q => vs = []∧Q σ H
noncomputable def gCons (t:TG) (u:TGs):TGs:=fun vs σ H Q => ∃ v r,vs = v :: r∧t v σ H fun σ' H' => u r σ' H' Q
theorem pgs_nil:PGs X [] gNil:=by
 intro pins s σ H vs us Q I r h
 obtain ⟨e,h⟩:=h
 subst e
 cases r
 exact assignInOrder_nil ⟨σ,H,I,h⟩
theorem pgs_cons {e:Expr} {es:List Expr} {t:TG} {u:TGs} (h1:PG X e t) (h2:PGs X es u)
  (hs:(assignEach (e :: es) X.env).map (·.2) = assign e X.env :: (assignEach es X.env).map (·.2):=by rfl):PGs X (e :: es) (gCons t u):=by
 intro pins s σ H vs us Q I r h
 obtain ⟨v,vr,e1,h⟩:=h
 subst e1
 cases r with
 | cons r rr =>
  rw [hs]
  refine assignInOrder_cons (thn (h1 pins s σ H _ _ _ I r h) fun _ s1 ⟨σ1,H1,I1,q1⟩ => ?_)
  exact h2 pins s1 σ1 H1 _ _ Q I1 rr q1
noncomputable def gTup (K:PySem.W.Frag) (n:Nat) (t:TGs):TG:=fun v σ H Q => ∃ a xs,v = .ref a∧SqT K H a xs∧xs.length = n∧t xs σ H Q
theorem pg_tup {es:List Expr} {k:Nat} {t:TGs} {n:Nat} (hc:X.calm = true) (h:PGs X es t)
  (hn:(assignEach es X.env).length = n:=by rfl) (hst:(assignEach es X.env).findIdx? (·.1) = none:=by rfl):PG X (.Tuple es k pos) (gTup X.K n t):=by
 intro pins s σ H v u Q I r hw
 obtain ⟨a,xs,e1,hq,hl,hw⟩:=hw
 subst e1
 cases r
 obtain ⟨its,rv,ht,hz⟩:=I.tuple hq
 refine assign_Tuple_tuple (I.ok.hd hc) ht (by simp [hn,← hl,rv.length]) hst fun h' hx => ?_
 have I1:Inv X pins σ H { s with heap:=h' }:=I.kept (t':=s.toks) fun b o e => hx b o (Nat.ne_of_lt (Heap.lt_size e)) e
 exact h pins _ σ H xs _ Q I1 (by simpa using rv) hw
noncomputable def gSub (to ti:TE) (t:TSet):TG:=fun v σ H Q => to σ H fun o H1 => ti σ H1 fun i H2 => t o i v H2 fun H3 => Q σ H3
theorem pg_sub {o i:Expr} {to ti:TE} {t:TSet} (ho:PE X o to) (hi:PE X i ti) (hs:PSet X t)
  (ha:∀ v,assign (.Subscript o i pos) X.env v = (do
   let ov ← holding [v] (eval o X.env)
   let iv ← holding [v,ov] (eval i X.env)
   standAt pos
   holding [v,ov,iv] (setItem ov iv v)
   release [v,ov,iv] []):=by intro _; rfl):PG X (.Subscript o i pos) (gSub to ti t):=by
 intro pins s σ H v u Q I r h
 rw [ha]
 refine wpAny_bind (wpAny_holding (thn (ho pins s σ H _ I h) fun ov s1 ⟨x,H1,I1,r1,q1⟩ => ?_))
 refine wpAny_bind (wpAny_holding (thn (hi pins s1 σ H1 _ I1 q1) fun iv s2 ⟨y,H2,I2,r2,q2⟩ => ?_))
 refine wpAny_bind (wpAny_standAt (wpAny_bind (wpAny_holding (thn (hs pins s2 σ H2 x y v ov iv u _ I2 r1 r2 r q2) fun _ s3 ⟨H3,I3,q3⟩ => ?_))))
 exact wpAny_release ⟨σ,H3,I3,q3⟩
noncomputable def tAsg (te:TE) (g:TG):TS:=fun D σ H => te σ H fun x H1 => g x σ H1 D.nx
theorem ps_asg {tg e:Expr} {te:TE} {g:TG} (he:PE X e te) (hg:PG X tg g) (hs:swapsWithSole [tg] e pos.line X.env = pure false:=by rfl) (hw:swappedStores [tg] e X.env = pure none:=by rfl)
  (h1:(assignEach [tg] X.env).map (·.2) = [assign tg X.env]:=by rfl):PS X (.Assign [tg] e pos) (tAsg te g):=by
 intro pins s σ H D I h
 refine wpAny_Assign_stores (thn (he pins s σ H _ I h) fun v s1 ⟨x,H1,I1,r1,q1⟩ => ?_) hs hw
 rw [h1]
 exact thn (hg pins s1 σ H1 x v _ I1 r1 q1) fun _ s2 q => q
theorem ps_set {i:Nat} {x:Str} {e:Expr} {te:TE} {pos':Pos} (hN:X.N.Nodup) (hi:X.N[i]? = some x) (hx:Loc X.env.scope x) (he:PE X e te) (hs:swapsWith e (some (.Name x pos')) pos.line X.env = pure false:=by rfl) (hf:X.fn x = true ∨ X.env.scope.names.lookup x = some .local:=by first | exact .inl rfl | exact .inr rfl | assumption) :
  PS X (.Assign [.Name x pos'] e pos) (tAsg te (gName i)):=by
 intro pins s σ H D I h
 refine wpAny_Assign_Name (thn (he pins s σ H _ I h) fun v s1 ⟨y,H1,I1,r1,q1⟩ => ?_) hs
 exact store_ok I1 hN hi hx r1 (fun s2 I2 => ⟨_,H1,I2,q1⟩) hf
noncomputable def tPar (i j:Nat) (ta:TA):TS:=fun D σ H => ta σ H fun vs H1 => ∃ v w,vs = [v,w]∧D.nx ((σ.set i (some v)).set j (some w)) H1
theorem ps_par {i j:Nat} {x y:Str} {a b:Expr} {ta:TA} {px py pt:Pos} {kt k2 pt2} (hc:X.calm = true) (hN:X.N.Nodup) (hi:X.N[i]? = some x) (hj:X.N[j]? = some y) (hij:i ≠ j)
  (hx:X.env.scope.names.lookup x = some .local) (hy:X.env.scope.names.lookup y = some .local) (ha:PA X [a,b] ta)
  (hw:swappedStores [.Tuple [.Name x px,.Name y py] kt pt] (.Tuple [a,b] k2 pt2) X.env = pure (some [x,y]))
  (hs:swapsWithSole [.Tuple [.Name x px,.Name y py] kt pt] (.Tuple [a,b] k2 pt2) pos.line X.env = pure false:=by rfl) :
  PS X (.Assign [.Tuple [.Name x px,.Name y py] kt pt] (.Tuple [a,b] k2 pt2) pos) (tPar i j ta):=by
 intro pins s σ H D I h
 rw [exec_Assign_arm]
 refine wpAny_bind (wpAny_standAt ?_)
 rw [hs]
 refine wpAny_bind (wpAny_pure ?_)
 rw [if_neg (by decide)]
 refine wpAny_bind (Tuple_ (thn (ha _ pins s σ H _ I h) fun us s1 ⟨vs,H1,I1,r1,q1⟩ => ?_))
 obtain ⟨v,w,e1,q1⟩:=q1
 subst e1
 obtain ⟨u1,u2,rfl,rv,rw'⟩:∃ u1 u2,us = [u1,u2]∧RelV v u1∧RelV w u2:=by
  cases r1 with
  | cons p q =>
   cases q with
   | cons p' q' =>
    cases q'
    exact ⟨_,_,rfl,p,p'⟩
 refine wpAny_newObj_type ?_ (by show 2 ≤ sizeLine; decide)
 have I2:Inv X pins σ H1 { s1 with heap:=s1.heap.push { cls:=.type "tuple",data:=.seq [u1,u2].toArray } }:=I1.kept (t':=s1.toks) fun b o e => Heap.get?_push_of_some _ e
 rw [hw]
 refine wpAny_bind (wpAny_pure ?_)
 show wpAny (model X.prog X.w) X.A (do rule "assign.swapped-stores"; let items ← unpackItems (.ref s1.heap.objs.size) 2 none; assignInOrder [fun v => bindName X.env y v,fun v => bindName X.env x v] items.reverse; pure Flow.next) _ _ _
 refine wpAny_bind (wpAny_rule (wpAny_bind (unpackItems_tuple (items:=#[u1,u2]) (I.ok.hd hc) (IsTup.new s1.heap _) fun h' hx' => ?_)))
 have I3:=I2.kept (h':=h') (t':=s1.toks) fun b o e => hx' b o (Nat.ne_of_lt (Heap.lt_size e)) e
 show wpAny _ _ (assignInOrder [fun v => bindName X.env y v,fun v => bindName X.env x v] [u2,u1] >>= fun _ => pure Flow.next) _ _ _
 refine wpAny_bind (assignInOrder_cons (wpAny_bindName (store_ok I3 hN hj (.inl hy) rw' (fun s2 I4 => ?_) (.inr hy))))
 refine assignInOrder_cons (wpAny_bindName (store_ok I4 hN hi (.inl hx) rv (fun s3 I5 => assignInOrder_nil (wpAny_pure ?_)) (.inr hx)))
 rw [List.set_comm _ _ (Ne.symm hij)] at I5
 exact ⟨_,H1,I5,q1⟩
noncomputable def tAug (i:Nat) (te:TE) (ti:TIp):TS:=fun D σ H => ∃ x,σ[i]? = some (some x)∧te σ H fun y H1 => ti x y H1 fun z H2 => D.nx (σ.set i (some z)) H2
theorem ps_aug {i:Nat} {x:Str} {e:Expr} {te:TE} {op:Operator} {ti:TIp} {pos':Pos} (hN:X.N.Nodup) (hi:X.N[i]? = some x) (hx:Loc X.env.scope x) (he:PE X e te) (ho:PIp X op ti) (hf:X.fn x = true ∨ X.env.scope.names.lookup x = some .local:=by first | exact .inl rfl | exact .inr rfl | assumption) :
  PS X (.AugAssign (.Name x pos') op e pos) (tAug i te ti):=by
 intro pins s σ H D I h
 obtain ⟨v,e1,h⟩:=h
 obtain ⟨m,hn,hl⟩:=I.loc
 have vis:Vis X.env.scope x:=by rcases hx with k | k; exact .inl k; exact .inr (.inl k)
 obtain ⟨u,r,l⟩:=hl i x v hi e1 vis
 refine wpAny_AugAssign_Name ?_
 have go:wpAny (model X.prog X.w) X.A (eval e X.env) (fun w s₂ => wpAny (model X.prog X.w) X.A (inplaceOp op u w) (fun r s₃ => wpAny (model X.prog X.w) X.A (storeName X.env x r) (fun _ => SP X pins D .next) X.xe s₃) X.xe s₂) X.xe s:=by
  refine thn (he pins s σ H _ I h) fun w s1 ⟨y,H1,I1,r1,q1⟩ => ?_
  refine thn (ho pins s1 σ H1 v y u w _ I1 r r1 q1) fun z s2 ⟨zv,H2,I2,r2,q2⟩ => ?_
  exact store_ok I2 hN hi hx r2 (fun s3 I3 => ⟨_,H2,I3,q2⟩) hf
 rcases l with ⟨hk,hm⟩ | ⟨hk,c,hc,hcell⟩
 ·exact wpAny_loadName_local I.ok.kind hk hn hm go
 ·rcases hk with hk | hk
  ·exact wpAny_loadName_cell I.ok.kind hk hc hcell go
  ·rcases hx with k | k
   ·have:X.env.scope.names.lookup x = some .free:=hk
    rw [k] at this; cases this
   ·have:X.env.scope.names.lookup x = some .free:=hk
    rw [k] at this; cases this
noncomputable def ipI (f:Int→Int→Int):TIp:=fun x y H Q => ∃ i j,x = .int i∧y = .int j∧Q (.int (f i j)) H
theorem ip_add:PIp X .Add (ipI fun i j => i + j):=by
 intro pins s σ H x y v u Q I r1 r2 h
 obtain ⟨i,j,e1,e2,q⟩:=h
 subst e1; subst e2
 obtain ⟨t,rfl⟩:=r1
 obtain ⟨t',rfl⟩:=r2
 exact iadd_int ⟨.int _,H,I.tok _,⟨_,rfl⟩,q⟩
end
section
variable {X:Cx} {pos:Pos}
noncomputable def tWhile (c:TT) (tb:TS):TS:=fun D σ H => ∃ W:Nat→St→Hp→Prop,(∃ m,W m σ H)∧∀ m σ H,W m σ H →
 c σ H fun b H1 => if b = true then ∃ N:St→Hp→Prop,(∀ σ' H',N σ' H'→∃ m',m' < m∧W m' σ' H')∧tb { D with nx:=N,ct:=N,bk:=D.nx } σ H1 else D.nx σ H1
theorem ps_while {c:Expr} {body:List Stmt} {tc:TT} {tb:TS} (hp:PassesOwn (model X.prog X.w) X.A X.env X.xe) (hc:PT X c tc) (hb:PSs X body tb):PS X (.While c body [] pos) (tWhile tc tb):=by
 intro pins s σ H D I h
 obtain ⟨W,⟨m0,w0⟩,turn⟩:=h
 refine wpAny_While (codeAny_whileLoop (fun n s' => ∃ σ' H',Inv X pins σ' H' s'∧W n σ' H') ?_ m0 ⟨σ,H,I,w0⟩)
 rintro n s1 ⟨σ1,H1,I1,w1⟩
 refine wpAny_passesOwn hp (thn (hc pins s1 σ1 H1 _ I1 (turn n σ1 H1 w1)) fun b s2 ⟨H2,I2,q2⟩ => ?_)
 cases b with
 | true =>
  obtain ⟨N,hN,q2⟩:=q2
  rw [if_pos rfl]
  refine wpAny_passesOwn hp (thn (hb pins s2 σ1 H2 _ I2 q2) fun f s3 q3 => ?_)
  cases f with
  | next =>
   obtain ⟨σ3,H3,I3,n3⟩:=q3
   obtain ⟨m',hm,w3⟩:=hN σ3 H3 n3
   exact ⟨m',hm,σ3,H3,I3,w3⟩
  | cont =>
   obtain ⟨σ3,H3,I3,n3⟩:=q3
   obtain ⟨m',hm,w3⟩:=hN σ3 H3 n3
   exact ⟨m',hm,σ3,H3,I3,w3⟩
  | brk => exact q3
  | ret v => exact q3
 | false =>
  rw [if_neg Bool.false_ne_true]
  exact wpAny_execs_nil ⟨σ1,H2,I2,q2⟩
end
structure It where
 go:Nat→Hp→Prop
 yld:Nat→Hp→V→Hp→Prop
 stop:Nat→Hp→Prop
noncomputable def FpOk (X:Cx) (pins:List (Addr × Obj)) (H:Hp) (b:Addr):Prop :=
 H b = none∧b ≠ X.env.locals∧b ∉ X.fs∧(b ∈ X.ex ∨ X.s₀.heap.objs.size ≤ b)∧(∀ x c,X.env.cells.lookup x = some c→c ≠ b)∧∀ p ∈ X.pn ++ pins,p.1 ≠ b
theorem Inv.fpOk {X:Cx} {pins:List (Addr × Obj)} {σ:St} {H H':Hp} {s:Shared} {b:Addr} (I:Inv X pins σ H s) (hb:s.heap.objs.size ≤ b) (hn:H' b = none):FpOk X pins H' b:=by
 refine ⟨hn,Nat.ne_of_gt (Nat.lt_of_lt_of_le I.lt hb),I.nofs hb,.inr (Nat.le_trans I.sz hb),fun x c e z => ?_,fun p hp z => ?_⟩
 ·obtain ⟨v,q⟩:=I.cell x c e
  exact absurd (Nat.lt_of_lt_of_le q.lt (by rw [z]; exact hb)) (Nat.lt_irrefl _)
 ·exact absurd (Nat.lt_of_lt_of_le (Heap.lt_size (I.pin p hp).1) (by rw [z]; exact hb)) (Nat.lt_irrefl _)
structure Turn (P:Program) (w:World) (K:PySem.W.Frag) (tg:Expr) (J:It) (fp:List Addr) (it:Addr) (tn:Nat→Heap→Prop):Prop where
 mem:it ∈ fp
 obj:∀ i h,tn i h→∀ b ∈ fp,∃ o,h.get? b = some o∧∀ v,o.data ≠ .cell v
 keep:∀ i h h',tn i h→(∀ b ∈ fp,∀ o,h.get? b = some o→h'.get? b = some o)→tn i h'
 item:∀ (X:Cx),X.prog = P→X.w = w→X.K = K→X.calm = true→∀ (i:Nat) (pins:List (Addr × Obj)) (s:Shared) (σ:St) (H:Hp) (E:Value→Shared→Prop),Inv X pins σ H s→(∀ b ∈ fp,FpOk X pins H b)→tn i s.heap→J.go i H →
  wpAny (model P w) X.A (pyNext (.ref it)) (fun r s1 => ∃ u,r = some u ∧
   wpAny (model P w) X.A (letOwnedTupleGo tg (.ref it) u) (fun _ s2 => ∃ x H',Inv X pins σ H' s2∧RelV x u∧J.yld i H x H'∧tn (i + 1) s2.heap∧∀ b ∈ fp,H' b = none) E s1) E s
 done:∀ (X:Cx),X.prog = P→X.w = w→X.K = K→X.calm = true→∀ (i:Nat) (pins:List (Addr × Obj)) (s:Shared) (σ:St) (H:Hp) (E:Value→Shared→Prop),Inv X pins σ H s→(∀ b ∈ fp,FpOk X pins H b)→tn i s.heap→J.stop i H →
  wpAny (model P w) X.A (pyNext (.ref it)) (fun r s1 => r = none∧Inv X pins σ H s1) E s
 self:∀ (A:Around) (i:Nat) (s:Shared) (Q:Value→Shared→Prop) (E:Value→Shared→Prop),tn i s.heap→Q (.ref it) s→wpAny (model P w) A (pyIter (.ref it)) Q E s
noncomputable abbrev TI:=St→Hp→(It→Hp→Prop)→Prop
noncomputable def PIE (X:Cx) (pins:List (Addr × Obj)) (σ:St) (tg:Expr) (R:It→Hp→Prop) (itv:Value) (s2:Shared):Prop :=
 ∃ (it:Addr) (fp:List Addr) (tn:Nat→Heap→Prop) (J:It) (H':Hp),itv = .ref it∧Inv X pins σ H' s2∧Turn X.prog X.w X.K tg J fp it tn∧tn 0 s2.heap∧(∀ b ∈ fp,FpOk X pins H' b)∧R J H'
noncomputable def PI (X:Cx) (tg iter:Expr) (wi:TI):Prop :=
 ∀ (pins:List (Addr × Obj)) (s:Shared) (σ:St) (H:Hp) (R:It→Hp→Prop),Inv X pins σ H s→wi σ H R →
  wpAny (model X.prog X.w) X.A (eval iter X.env) (fun v s1 => wpAny (model X.prog X.w) X.A (pyIter v) (PIE X pins σ tg R) X.xe s1) X.xe s
theorem go_of {M:Model} {A:Around} {E:Value→Shared→Prop} {s:Shared} {tg:Expr} {it:Addr} {u:Value} {o:Obj} {n:String} {vs:Array Value} {Q:Unit→Shared→Prop} (ho:s.heap.get? it = some o) (hc:o.cls = .type n) (hd:o.data = .fields vs)
    (hn:["enumerate","zip","dict_itemiterator","dict_reverseitemiterator","odict_iterator","itertools.zip_longest","itertools.pairwise"].contains n = false) (hQ:Q () s):wpAny M A (letOwnedTupleGo tg (.ref it) u) Q E s:=by
  unfold letOwnedTupleGo
  cases tg <;> first
    | exact wpAny_pure hQ
    | (cases u <;> first
        | exact wpAny_pure hQ
        | (refine wpAny_bind (wpAny_load ho ?_)
           rw [hc,hd]
           show wpAny M A (if (["enumerate","zip","dict_itemiterator","dict_reverseitemiterator","odict_iterator","itertools.zip_longest","itertools.pairwise"].contains n && vs[0]? == some (rawInt _)) = true then _ else _) Q E s
           rw [if_neg (by intro h; rw [hn,Bool.false_and] at h; cases h)]
           exact wpAny_pure hQ))
noncomputable def Itl (K:PySem.W.Frag) (a:Addr):It :=
 ⟨fun i H => ∃ xs x,SqL K H a xs∧xs[i]? = some x,fun i H x H' => H' = H∧∀ xs,SqL K H a xs→xs[i]? = some x,fun i H => ∃ xs,SqL K H a xs∧xs.length ≤ i⟩
noncomputable def Itt (K:PySem.W.Frag) (a:Addr):It :=
 ⟨fun i H => ∃ xs x,SqT K H a xs∧xs[i]? = some x,fun i H x H' => H' = H∧∀ xs,SqT K H a xs→xs[i]? = some x,fun i H => ∃ xs,SqT K H a xs∧xs.length ≤ i⟩
noncomputable def Itr (lo:Int) (n:Nat):It:=⟨fun i _ => i < n,fun i H x H' => H' = H∧x = .int (lo + i),fun i _ => n ≤ i⟩
theorem turn_list {P:Program} {w:World} {K:PySem.W.Frag} {tg:Expr} (a it:Addr):Turn P w K tg (Itl K a) [it] it (fun i h => h.IsListIter it a i) where
 mem:=by simp
 obj:=fun i h st b hb => by
  have e:b = it:=by simpa using hb
  subst e
  obtain ⟨o,e,c,d⟩:=st
  exact ⟨o,e,fun v z => by rw [d] at z; cases z⟩
 keep:=fun i h h' st k => st.at fun o e => k it (by simp) o e
 item:=by
  intro X hP hw hK hc i pins s σ H E I hf st hg
  subst hP hw hK
  obtain ⟨xs,x,hq,hx⟩:=hg
  obtain ⟨its,rv,p,hz⟩:=I.list hq
  obtain ⟨u,hu,ru⟩:=rv.get hx
  obtain ⟨f0,f1,f2,f3,f4,f5⟩:=hf it (by simp)
  refine wpAny_pyNext_list_item st p.isList (x:=u) (by simpa using hu) fun h' st' sb => ?_
  have I1:Inv X pins σ H { s with heap:=h' }:=I.turned (t':=s.toks) (fun b o hb e => (sb.2 b hb).trans e) f0 f1 f3 f4 f5
  obtain ⟨o,e,c,d⟩:=id st'
  exact ⟨u,rfl,go_of (s:={ s with heap:=h' }) e c d (by decide) ⟨x,H,I1,ru,⟨rfl,fun ys hy => by rw [I.list_inj hy hq]; exact hx⟩,st',fun b hb => (hf b hb).1⟩⟩
 done:=by
  intro X hP hw hK hc i pins s σ H E I hf st hg
  subst hP hw hK
  obtain ⟨xs,hq,hx⟩:=hg
  obtain ⟨its,rv,p,hz⟩:=I.list hq
  obtain ⟨f0,f1,f2,f3,f4,f5⟩:=hf it (by simp)
  have hl:=rv.length
  exact wpAny_pyNext_list_end (I.ok.hd hc) st p.isList (by simp; omega) fun h' eb => ⟨rfl,I.turned (t':=s.toks) (fun b o hb e => eb b o hb e) f0 f1 f3 f4 f5⟩
 self:=fun _ _ _ _ _ st h => wpAny_pyIter_listiter st h
theorem turn_tuple {P:Program} {w:World} {K:PySem.W.Frag} {tg:Expr} (a it:Addr):Turn P w K tg (Itt K a) [it] it (fun i h => h.IsTupleIter it a i) where
 mem:=by simp
 obj:=fun i h st b hb => by
  have e:b = it:=by simpa using hb
  subst e
  obtain ⟨o,e,c,d⟩:=st
  exact ⟨o,e,fun v z => by rw [d] at z; cases z⟩
 keep:=fun i h h' st k => st.at fun o e => k it (by simp) o e
 item:=by
  intro X hP hw hK hc i pins s σ H E I hf st hg
  subst hP hw hK
  obtain ⟨xs,x,hq,hx⟩:=hg
  obtain ⟨its,rv,p,hz⟩:=I.tuple hq
  obtain ⟨u,hu,ru⟩:=rv.get hx
  obtain ⟨f0,f1,f2,f3,f4,f5⟩:=hf it (by simp)
  refine wpAny_pyNext_tuple_item st (show s.heap.IsTuple a its.toArray from p) (x:=u) (by simpa using hu) fun h' st' sb => ?_
  have I1:Inv X pins σ H { s with heap:=h' }:=I.turned (t':=s.toks) (fun b o hb e => (sb.2 b hb).trans e) f0 f1 f3 f4 f5
  obtain ⟨o,e,c,d⟩:=id st'
  exact ⟨u,rfl,go_of (s:={ s with heap:=h' }) e c d (by decide) ⟨x,H,I1,ru,⟨rfl,fun ys hy => by rw [I.tuple_inj hy hq]; exact hx⟩,st',fun b hb => (hf b hb).1⟩⟩
 done:=by
  intro X hP hw hK hc i pins s σ H E I hf st hg
  subst hP hw hK
  obtain ⟨xs,hq,hx⟩:=hg
  obtain ⟨its,rv,p,hz⟩:=I.tuple hq
  obtain ⟨f0,f1,f2,f3,f4,f5⟩:=hf it (by simp)
  have hl:=rv.length
  exact wpAny_pyNext_tuple_end (I.ok.hd hc) st (show s.heap.IsTuple a its.toArray from p) (by simp; omega) fun h' eb => ⟨rfl,I.turned (t':=s.toks) (fun b o hb e => eb b o hb e) f0 f1 f3 f4 f5⟩
 self:=fun _ _ _ _ _ st h => wpAny_pyIter_tupleiter st h
theorem turn_range {P:Program} {w:World} {K:PySem.W.Frag} {tg:Expr} (it:Addr) (lo:Int) (n:Nat):Turn P w K tg (Itr lo n) [it] it (fun i h => IsRangeIter h it (lo + (i:Nat) * 1) ((n:Int) - (i:Nat)) 1) where
 mem:=by simp
 obj:=fun i h st b hb => by
  have e:b = it:=by simpa using hb
  subst e
  exact ⟨_,st,fun v z => by
   have z':Data.fields _ = Data.cell v:=z
   cases z'⟩
 keep:=fun i h h' st k => k it (by simp) _ st
 item:=by
  intro X hP hw hK hc i pins s σ H E I hf st hg
  subst hP hw hK
  obtain ⟨f0,f1,f2,f3,f4,f5⟩:=hf it (by simp)
  have W:=Walks.range (prog:=X.prog) (w:=X.w) (I.ok.hd hc) it lo 1 n
  refine W.item i s _ _ hg st fun v h' tk hv st' kk => ?_
  obtain ⟨t,rfl⟩:=hv
  have I1:Inv X pins σ H { s with heap:=h',toks:=tk }:=I.turned (fun b o hb e => kk b o (by simpa using hb) e) f0 f1 f3 f4 f5
  refine ⟨_,rfl,go_of (s:={ s with heap:=h',toks:=tk }) (n:="range_iterator") st' rfl rfl (by decide) ⟨.int (lo + i),H,I1,⟨t,?_⟩,⟨rfl,rfl⟩,st',fun b hb => (hf b hb).1⟩⟩
  rw [Int.mul_one]
 done:=by
  intro X hP hw hK hc i pins s σ H E I hf st hg
  subst hP hw hK
  obtain ⟨f0,f1,f2,f3,f4,f5⟩:=hf it (by simp)
  exact wpAny_pyNext_range_end (I.ok.hd hc) st (by have:n ≤ i:=hg; omega) fun h' eb => ⟨rfl,I.turned (t':=s.toks) (fun b o hb e => eb b o hb e) f0 f1 f3 f4 f5⟩
 self:=fun _ _ _ _ _ st h => wpAny_pyIter_rangeiter st h
end L2
namespace L2
open PySem PySem.Spec PyProof.Rows
section
variable {X:Cx} {tg:Expr}
noncomputable def iList (K:PySem.W.Frag) (tl:TE):TI:=fun σ H R => tl σ H fun x H1 => ∃ a,x = .ref a∧(∃ xs,SqL K H1 a xs)∧R (Itl K a) H1
noncomputable def iTup (K:PySem.W.Frag) (tl:TE):TI:=fun σ H R => tl σ H fun x H1 => ∃ a,x = .ref a∧(∃ xs,SqT K H1 a xs)∧R (Itt K a) H1
theorem pi_list {l:Expr} {tl:TE} (hl:PE X l tl):PI X tg l (iList X.K tl):=by
 intro pins s σ H R I h
 refine thn (hl pins s σ H _ I h) fun v s1 ⟨x,H1,I1,r1,q1⟩ => ?_
 obtain ⟨a,e,⟨xs,hq⟩,q⟩:=q1
 subst e
 cases r1
 obtain ⟨its,rv,p,hz⟩:=I1.list hq
 refine wpAny_pyIter_list p.isList ?_
 refine ⟨s1.heap.objs.size,[s1.heap.objs.size],_,_,H1,rfl,I1.kept (t':=s1.toks) fun b o e => Heap.get?_push_of_some _ e,turn_list a _,⟨_,Heap.get?_push_size _ rfl,rfl,rfl⟩,fun b hb => ?_,q⟩
 have e:b = s1.heap.objs.size:=by simpa using hb
 subst e
 exact I1.fpOk (Nat.le_refl _) (I1.hok.fresh (Nat.le_refl _))
theorem pi_tup {l:Expr} {tl:TE} (hl:PE X l tl):PI X tg l (iTup X.K tl):=by
 intro pins s σ H R I h
 refine thn (hl pins s σ H _ I h) fun v s1 ⟨x,H1,I1,r1,q1⟩ => ?_
 obtain ⟨a,e,⟨xs,hq⟩,q⟩:=q1
 subst e
 cases r1
 obtain ⟨its,rv,p,hz⟩:=I1.tuple hq
 refine wpAny_pyIter_tuple (show s1.heap.IsTuple a its.toArray from p) ?_
 refine ⟨s1.heap.objs.size,[s1.heap.objs.size],_,_,H1,rfl,I1.kept (t':=s1.toks) fun b o e => Heap.get?_push_of_some _ e,turn_tuple a _,⟨_,Heap.get?_push_size _ rfl,rfl,rfl⟩,fun b hb => ?_,q⟩
 have e:b = s1.heap.objs.size:=by simpa using hb
 subst e
 exact I1.fpOk (Nat.le_refl _) (I1.hok.fresh (Nat.le_refl _))
theorem range_it {pins:List (Addr × Obj)} {σ:St} {H:Hp} {s:Shared} {R:It→Hp→Prop} {E:Value→Shared→Prop} {lo hi:Int} {t u v:Tok} {tk:Nat} (I:Inv X pins σ H s) (h1:-(2 ^ 62) ≤ lo) (h2:lo < 2 ^ 62) (h3:-(2 ^ 62) ≤ hi) (h4:hi < 2 ^ 62)
  (q:R (Itr lo (hi - lo).toNat) H):wpAny (model X.prog X.w) X.A (pyIter (.ref s.heap.objs.size)) (PIE X pins σ tg R) E { s with heap:=s.heap.push { cls:=.type "range",data:=.fields #[.int lo t,.int hi u,.int 1 v] },toks:=tk }:=by
 refine wpAny_pyIter_range (IsRange.new ..) (small_one h1 h2 h3 h4) ?_
 have I1:Inv X pins σ H { s with heap:=s.heap.push { cls:=.type "range",data:=.fields #[.int lo t,.int hi u,.int 1 v] },toks:=tk }:=I.kept fun b o e => Heap.get?_push_of_some _ e
 refine ⟨(s.heap.push { cls:=.type "range",data:=.fields #[.int lo t,.int hi u,.int 1 v] }).objs.size,[(s.heap.push { cls:=.type "range",data:=.fields #[.int lo t,.int hi u,.int 1 v] }).objs.size],_,_,H,rfl,
  I1.kept (t':=tk) fun b o e => Heap.get?_push_of_some _ e,turn_range _ lo (hi - lo).toNat,?_,fun b hb => ?_,q⟩
 ·have e1:lo + ((0:Nat):Int) * 1 = lo:=by simp
  have e2:(((hi - lo).toNat:Nat):Int) - ((0:Nat):Int) = Builtin.Range.rangeSize lo hi 1:=by rw [rangeSize_one]; split <;> omega
  show IsRangeIter _ _ (lo + ((0:Nat):Int) * 1) ((((hi - lo).toNat:Nat):Int) - ((0:Nat):Int)) 1
  rw [e1,e2]
  exact Heap.get?_push_size _ rfl
 ·have e:b = (s.heap.push { cls:=.type "range",data:=.fields #[.int lo t,.int hi u,.int 1 v] }).objs.size:=by simpa using hb
  subst e
  exact I1.fpOk (Nat.le_refl _) (I1.hok.fresh (Nat.le_refl _))
noncomputable def iRng1 (ta:TA):TI:=fun σ H R => ta σ H fun vs H1 => ∃ j:Int,vs = [.int j]∧-(2 ^ 62) ≤ j∧j < 2 ^ 62∧R (Itr 0 j.toNat) H1
theorem pi_range1 {a:Expr} {ta:TA} {p pos:Pos} (hg:Gl X "range") (hm:X.mg "range" = none) (ha:PA X [a] ta) (hs:starEach [a] X.env = [(false,eval a X.env)]:=by rfl):PI X tg (.Call (.Name "range" p) [a] [] pos) (iRng1 ta):=by
 intro pins s σ H R I h
 refine Call_ (ld_blt I hg hm boot_range (PyProof.Rows.callWith_type1 (thn (ha pos pins s σ H _ I h) fun us s1 ⟨vs,H1,I1,r1,q1⟩ => ?_) hs rfl))
 obtain ⟨j,e,q1,q2,q⟩:=q1
 subst e
 cases r1 with
 | cons r rr =>
  cases rr
  obtain ⟨t,rfl⟩:=r
  exact call_range_1 (range_it I1 (by omega) (by omega) q1 q2 (by simpa using q))
noncomputable def tFor (wi:TI) (g:TG) (tb:TS):TS:=fun D σ H => wi σ H fun J H1 => ∃ W:Nat→Nat→St→Hp→Prop,(∃ m,W 0 m σ H1)∧∀ i m σ H,W i m σ H →
 (J.stop i H∧D.nx σ H) ∨ (J.go i H∧∃ N:St→Hp→Prop,(∀ σ' H',N σ' H'→∃ m',m' < m∧W (i + 1) m' σ' H')∧∀ x H',J.yld i H x H'→g x σ H' fun σ2 H2 => tb { D with nx:=N,ct:=N,bk:=D.nx } σ2 H2)
noncomputable def pinsAt (fp:List Addr) (h:Heap):List (Addr × Obj):=fp.filterMap fun b => (h.get? b).map fun o => (b,o)
theorem mem_pinsAt {fp:List Addr} {h:Heap} {b:Addr} {o:Obj} (hb:b ∈ fp) (e:h.get? b = some o):(b,o) ∈ pinsAt fp h:=List.mem_filterMap.mpr ⟨b,hb,by rw [e]; rfl⟩
theorem of_pinsAt {fp:List Addr} {h:Heap} {p:Addr × Obj} (hp:p ∈ pinsAt fp h):p.1 ∈ fp∧h.get? p.1 = some p.2:=by
 obtain ⟨b,hb,e⟩:=List.mem_filterMap.mp hp
 cases q:h.get? b with
 | none => rw [q] at e; cases e
 | some o =>
  rw [q] at e
  have e':(b,o) = p:=Option.some.inj e
  subst e'
  exact ⟨hb,q⟩
theorem Inv.pinned {pins:List (Addr × Obj)} {σ:St} {H:Hp} {s:Shared} {fp:List Addr} (I:Inv X pins σ H s) (hf:∀ b ∈ fp,FpOk X pins H b) (ho:∀ b ∈ fp,∃ o,s.heap.get? b = some o∧∀ v,o.data ≠ .cell v):Inv X (pins ++ pinsAt fp s.heap) σ H s :=
 I.pins_of fun p hp => (List.mem_append.mp hp).elim (fun z => I.pin p (List.mem_append_right _ z)) fun z => by
  obtain ⟨hb,e⟩:=of_pinsAt z
  obtain ⟨f0,f1,f2,_⟩:=hf p.1 hb
  obtain ⟨o,e',d⟩:=ho p.1 hb
  rw [e] at e'; cases e'
  exact ⟨e,f0,f1,f2,d⟩
theorem Inv.unpinned {pins pl:List (Addr × Obj)} {σ:St} {H:Hp} {s:Shared} (I:Inv X (pins ++ pl) σ H s):Inv X pins σ H s:=I.pins_of fun p hp => I.pin p (List.mem_append_right _ (List.mem_append_left _ hp))
theorem ps_for {iter:Expr} {body:List Stmt} {wi:TI} {g:TG} {tb:TS} {pos:Pos} (hp:PassesOwn (model X.prog X.w) X.A X.env X.xe) (hc:X.calm = true) (hi:PI X tg iter wi) (hg:PG X tg g) (hb:PSs X body tb)
  (hs:∀ x,foldedSetIterable iter X.env x = pure x:=by intro _; rfl):PS X (.For tg iter body [] pos) (tFor wi g tb):=by
 intro pins s σ H D I h
 refine wpAny_For (thn (hi pins s σ H _ I h) fun v s1 h1 => thn h1 fun itv s2 h2 => ?_) hs
 obtain ⟨it,fp,tn,J,H2,e,I2,T,st2,f2,W,⟨m0,w0⟩,turn⟩:=h2
 subst e
 -- what stays true of the iterator's objects through the loop
 have stat:∀ {H':Hp},(∀ b ∈ fp,H' b = none)→∀ b ∈ fp,FpOk X pins H' b:=fun hn b hb => ⟨hn b hb,(f2 b hb).2⟩
 refine codeAny_forLoop_any (fun n s' => ∃ i σ' H',Inv X pins σ' H' s'∧tn i s'.heap∧(∀ b ∈ fp,H' b = none)∧W i n σ' H') ?_ m0 ⟨0,σ,H2,I2,st2,fun b hb => (f2 b hb).1,w0⟩
 rintro n s3 ⟨i,σ3,H3,I3,st3,fr3,w3⟩
 rcases turn i n σ3 H3 w3 with ⟨stop,qn⟩ | ⟨go,N,hN,step⟩
 ·refine wpAny_passesOwn hp (thn (T.done X rfl rfl rfl hc i pins s3 σ3 H3 X.xe I3 (stat fr3) st3 stop) fun r s4 ⟨hr,I4⟩ => ?_)
  subst hr
  exact wpAny_execs_nil ⟨σ3,H3,I4,qn⟩
 ·refine wpAny_passesOwn hp (thn (T.item X rfl rfl rfl hc i pins s3 σ3 H3 X.xe I3 (stat fr3) st3 go) fun r s4 ⟨u,hr,h4⟩ => ?_)
  subst hr
  refine wpAny_passesOwn hp (thn h4 fun _ s5 ⟨x,H5,I5,r5,y5,st5,fr5⟩ => ?_)
  have I5':=I5.pinned (stat fr5) (T.obj _ _ st5)
  refine wpAny_passesOwn hp (thn (hg _ s5 σ3 H5 x u _ I5' r5 (step x H5 y5)) fun _ s6 ⟨σ6,H6,I6,q6⟩ => ?_)
  refine wpAny_passesOwn hp (thn (hb _ s6 σ6 H6 _ I6 q6) fun f s7 q7 => ?_)
  have again:∀ {σ7:St} {H7:Hp},Inv X (pins ++ pinsAt fp s5.heap) σ7 H7 s7→N σ7 H7→∃ m,m < n∧∃ i σ' H',Inv X pins σ' H' s7∧tn i s7.heap∧(∀ b ∈ fp,H' b = none)∧W i m σ' H':=fun {σ7 H7} I7 n7 => by
   obtain ⟨m',hm,w7⟩:=hN σ7 H7 n7
   refine ⟨m',hm,i + 1,σ7,H7,I7.unpinned,T.keep _ _ _ st5 fun b hb o e => (I7.pin (b,o) (List.mem_append_right _ (List.mem_append_right _ (mem_pinsAt hb e)))).1,fun b hb => ?_,w7⟩
   obtain ⟨o,e,d⟩:=T.obj _ _ st5 b hb
   exact (I7.pin (b,o) (List.mem_append_right _ (List.mem_append_right _ (mem_pinsAt hb e)))).2.1
  cases f with
  | next => obtain ⟨σ7,H7,I7,n7⟩:=q7; exact again I7 n7
  | cont => obtain ⟨σ7,H7,I7,n7⟩:=q7; exact again I7 n7
  | brk => obtain ⟨σ7,H7,I7,q7⟩:=q7; exact ⟨σ7,H7,I7.unpinned,q7⟩
  | ret v => obtain ⟨x7,σ7,H7,I7,r7,q7⟩:=q7; exact ⟨x7,σ7,H7,I7.unpinned,r7,q7⟩
end
theorem for_list {K:PySem.W.Frag} {a:Addr} {xs:List V} {g:TG} {tb:TS} {D:Ends} {σ:St} {H:Hp} (Pv:Nat→St→Hp→Prop) (h0:Pv 0 σ H) (hl:∀ i σ H,i ≤ xs.length→Pv i σ H→SqL K H a xs)
  (hs:∀ i x σ H,xs[i]? = some x→Pv i σ H→g x σ H fun σ2 H2 => tb { D with nx:=Pv (i + 1),ct:=Pv (i + 1),bk:=D.nx } σ2 H2) (hd:∀ σ H,Pv xs.length σ H→D.nx σ H) :
  ∃ W:Nat→Nat→St→Hp→Prop,(∃ m,W 0 m σ H)∧∀ i m σ H,W i m σ H →
   ((Itl K a).stop i H∧D.nx σ H) ∨ ((Itl K a).go i H∧∃ N:St→Hp→Prop,(∀ σ' H',N σ' H'→∃ m',m' < m∧W (i + 1) m' σ' H')∧∀ x H',(Itl K a).yld i H x H'→g x σ H' fun σ2 H2 => tb { D with nx:=N,ct:=N,bk:=D.nx } σ2 H2):=by
 refine ⟨fun i m σ H => m = xs.length - i∧i ≤ xs.length∧Pv i σ H,⟨xs.length,by simp,Nat.zero_le _,h0⟩,?_⟩
 rintro i m σ H ⟨rfl,hi,p⟩
 have q:=hl i σ H hi p
 by_cases hlt:i < xs.length
 ·refine .inr ⟨⟨xs,xs[i],q,by simp [hlt]⟩,Pv (i + 1),fun σ' H' p' => ⟨xs.length - (i + 1),by omega,rfl,hlt,p'⟩,fun x H' y => ?_⟩
  obtain ⟨e,y⟩:=y
  subst e
  exact hs i x σ _ (y xs q) p
 ·have e:i = xs.length:=by omega
  subst e
  exact .inl ⟨⟨xs,q,Nat.le_refl _⟩,hd σ H p⟩
theorem for_tup {K:PySem.W.Frag} {a:Addr} {xs:List V} {g:TG} {tb:TS} {D:Ends} {σ:St} {H:Hp} (Pv:Nat→St→Hp→Prop) (h0:Pv 0 σ H) (hl:∀ i σ H,i ≤ xs.length→Pv i σ H→SqT K H a xs)
  (hs:∀ i x σ H,xs[i]? = some x→Pv i σ H→g x σ H fun σ2 H2 => tb { D with nx:=Pv (i + 1),ct:=Pv (i + 1),bk:=D.nx } σ2 H2) (hd:∀ σ H,Pv xs.length σ H→D.nx σ H) :
  ∃ W:Nat→Nat→St→Hp→Prop,(∃ m,W 0 m σ H)∧∀ i m σ H,W i m σ H →
   ((Itt K a).stop i H∧D.nx σ H) ∨ ((Itt K a).go i H∧∃ N:St→Hp→Prop,(∀ σ' H',N σ' H'→∃ m',m' < m∧W (i + 1) m' σ' H')∧∀ x H',(Itt K a).yld i H x H'→g x σ H' fun σ2 H2 => tb { D with nx:=N,ct:=N,bk:=D.nx } σ2 H2):=by
 refine ⟨fun i m σ H => m = xs.length - i∧i ≤ xs.length∧Pv i σ H,⟨xs.length,by simp,Nat.zero_le _,h0⟩,?_⟩
 rintro i m σ H ⟨rfl,hi,p⟩
 have q:=hl i σ H hi p
 by_cases hlt:i < xs.length
 ·refine .inr ⟨⟨xs,xs[i],q,by simp [hlt]⟩,Pv (i + 1),fun σ' H' p' => ⟨xs.length - (i + 1),by omega,rfl,hlt,p'⟩,fun x H' y => ?_⟩
  obtain ⟨e,y⟩:=y
  subst e
  exact hs i x σ _ (y xs q) p
 ·have e:i = xs.length:=by omega
  subst e
  exact .inl ⟨⟨xs,q,Nat.le_refl _⟩,hd σ H p⟩
theorem for_range {lo:Int} {n:Nat} {g:TG} {tb:TS} {D:Ends} {σ:St} {H:Hp} (Pv:Nat→St→Hp→Prop) (h0:Pv 0 σ H)
  (hs:∀ i σ H,i < n→Pv i σ H→g (.int (lo + i)) σ H fun σ2 H2 => tb { D with nx:=Pv (i + 1),ct:=Pv (i + 1),bk:=D.nx } σ2 H2) (hd:∀ σ H,Pv n σ H→D.nx σ H) :
  ∃ W:Nat→Nat→St→Hp→Prop,(∃ m,W 0 m σ H)∧∀ i m σ H,W i m σ H →
   ((Itr lo n).stop i H∧D.nx σ H) ∨ ((Itr lo n).go i H∧∃ N:St→Hp→Prop,(∀ σ' H',N σ' H'→∃ m',m' < m∧W (i + 1) m' σ' H')∧∀ x H',(Itr lo n).yld i H x H'→g x σ H' fun σ2 H2 => tb { D with nx:=N,ct:=N,bk:=D.nx } σ2 H2):=by
 refine ⟨fun i m σ H => m = n - i∧i ≤ n∧Pv i σ H,⟨n,by simp,Nat.zero_le _,h0⟩,?_⟩
 rintro i m σ H ⟨rfl,hi,p⟩
 by_cases hlt:i < n
 ·refine .inr ⟨hlt,Pv (i + 1),fun σ' H' p' => ⟨n - (i + 1),by omega,rfl,hlt,p'⟩,fun x H' y => ?_⟩
  obtain ⟨e,y⟩:=y
  subst e y
  exact hs i σ _ hlt p
 ·have e:i = n:=by omega
  subst e
  exact .inl ⟨Nat.le_refl _,hd σ H p⟩
end L2
namespace L2
open PySem PySem.Spec PyProof.Rows
noncomputable abbrev R2:=V→V→Hp→VK→Prop
noncomputable def OpR (X:Cx) (f:Value→Value→Sem Value) (r:R2):Prop :=
 ∀ (pins:List (Addr × Obj)) (s:Shared) (σ:St) (H:Hp) (x y:V) (v u:Value) (Q:VK),Inv X pins σ H s→RelV x v→RelV y u→r x y H Q →
  wpAny (model X.prog X.w) X.A (f v u) (EP X pins σ Q) X.xe s
noncomputable def UnR (X:Cx) (f:Value→Sem Value) (r:V→Hp→VK→Prop):Prop :=
 ∀ (pins:List (Addr × Obj)) (s:Shared) (σ:St) (H:Hp) (x:V) (v:Value) (Q:VK),Inv X pins σ H s→RelV x v→r x H Q →
  wpAny (model X.prog X.w) X.A (f v) (EP X pins σ Q) X.xe s
noncomputable def CallR (X:Cx) (f:Value) (r:List V→Hp→VK→Prop):Prop :=
 ∀ (pins:List (Addr × Obj)) (s:Shared) (σ:St) (H:Hp) (xs:List V) (us:List Value) (Q:VK),Inv X pins σ H s→Vals xs us→r xs H Q →
  wpAny (model X.prog X.w) X.A (call f us) (EP X pins σ Q) X.xe s
noncomputable def tOp (r:R2) (ta tb:TE):TE:=fun σ H Q => ta σ H fun x H1 => tb σ H1 fun y H2 => r x y H2 Q
noncomputable def tUn (r:V→Hp→VK→Prop) (ta:TE):TE:=fun σ H Q => ta σ H fun x H1 => r x H1 Q
noncomputable def rI (C:Int→Int→Prop) (g:Int→Int→V):R2:=fun x y H Q => ∃ i j,x = .int i∧y = .int j∧C i j∧Q (g i j) H
noncomputable def rI0 (g:Int→Int→V):R2:=fun x y H Q => ∃ i j,x = .int i∧y = .int j∧Q (g i j) H
noncomputable def rU (g:Int→V):V→Hp→VK→Prop:=fun x H Q => ∃ i,x = .int i∧Q (g i) H
section
variable {X:Cx} {a b c:Expr} {ta tb tc:TE} {pos:Pos}
theorem binT (ha:PE X a ta) (hb:PE X b tb) {pins:List (Addr × Obj)} {s:Shared} {σ:St} {H:Hp} {R:V→V→Hp→Prop} (I:Inv X pins σ H s)
  (h:ta σ H fun x H1 => tb σ H1 fun y H2 => R x y H2) {Q:Value→Shared→Prop} {f:Value→Value→Sem Value}
  (hf:∀ v u s2 x y H2,Inv X pins σ H2 s2→RelV x v→RelV y u→R x y H2→wpAny (model X.prog X.w) X.A (f v u) Q X.xe s2) :
  wpAny (model X.prog X.w) X.A (eval a X.env) (fun v s₁ => wpAny (model X.prog X.w) X.A (eval b X.env) (fun u s₂ => wpAny (model X.prog X.w) X.A (f v u) Q X.xe s₂) X.xe s₁) X.xe s:=by
 refine thn (ha pins s σ H _ I h) fun v s1 ⟨x,H1,I1,r1,q1⟩ => ?_
 refine thn (hb pins s1 σ H1 _ I1 q1) fun u s2 ⟨y,H2,I2,r2,q2⟩ => ?_
 exact hf v u s2 x y H2 I2 r1 r2 q2
theorem pe_op {op:Operator} {r:R2} (ho:OpR X (binaryOp op) r) (ha:PE X a ta) (hb:PE X b tb):PE X (.BinOp a op b pos) (tOp r ta tb):=by
 intro pins s σ H Q I h
 exact wpAny_BinOp (binT ha hb I h fun v u s2 x y H2 I2 rx ry q => ho pins s2 σ H2 x y v u Q I2 rx ry q)
theorem pe_un {op:UnaryOp} {r:V→Hp→VK→Prop} (ho:UnR X (unaryOp op) r) (ha:PE X a ta):PE X (.UnaryOp op a pos) (tUn r ta):=by
 intro pins s σ H Q I h
 exact UnaryOp_ (thn (ha pins s σ H _ I h) fun v s1 ⟨x,H1,I1,r1,q1⟩ => ho pins s1 σ H1 x v Q I1 r1 q1)
theorem opI {f:Value→Value→Sem Value} {C:Int→Int→Prop} {g:Int→Int→Int}
  (rule:∀ (i j:Int) (t u:Tok) (s:Shared) (Q:Value→Shared→Prop) (E:Value→Shared→Prop),C i j→Q (.int (g i j) s.toks) { s with toks:=s.toks + 1 }→wpAny (model X.prog X.w) X.A (f (.int i t) (.int j u)) Q E s) :
  OpR X f (rI C fun i j => .int (g i j)):=by
 intro pins s σ H x y v u Q I rx ry h
 obtain ⟨i,j,rfl,rfl,hc,q⟩:=h
 obtain ⟨t,rfl⟩:=rx
 obtain ⟨t',rfl⟩:=ry
 exact rule i j t t' s _ _ hc ⟨.int (g i j),H,I.tok _,⟨_,rfl⟩,q⟩
theorem opI0 {f:Value→Value→Sem Value} {g:Int→Int→Int}
  (rule:∀ (i j:Int) (t u:Tok) (s:Shared) (Q:Value→Shared→Prop) (E:Value→Shared→Prop),Q (.int (g i j) s.toks) { s with toks:=s.toks + 1 }→wpAny (model X.prog X.w) X.A (f (.int i t) (.int j u)) Q E s) :
  OpR X f (rI0 fun i j => .int (g i j)):=by
 intro pins s σ H x y v u Q I rx ry h
 obtain ⟨i,j,rfl,rfl,q⟩:=h
 obtain ⟨t,rfl⟩:=rx
 obtain ⟨t',rfl⟩:=ry
 exact rule i j t t' s _ _ ⟨.int (g i j),H,I.tok _,⟨_,rfl⟩,q⟩
theorem opB0 {f:Value→Value→Sem Value} {g:Int→Int→Bool}
  (rule:∀ (i j:Int) (t u:Tok) (s:Shared) (Q:Value→Shared→Prop) (E:Value→Shared→Prop),Q (.bool (g i j)) s→wpAny (model X.prog X.w) X.A (f (.int i t) (.int j u)) Q E s) :
  OpR X f (rI0 fun i j => .bl (g i j)):=by
 intro pins s σ H x y v u Q I rx ry h
 obtain ⟨i,j,rfl,rfl,q⟩:=h
 obtain ⟨t,rfl⟩:=rx
 obtain ⟨t',rfl⟩:=ry
 exact rule i j t t' s _ _ ⟨.bl (g i j),H,I,rfl,q⟩
noncomputable def CDiv (i j:Int):Prop:=0 < j∧j < 1073741824
noncomputable def CPow (i j:Int):Prop:=0 ≤ j∧j ≤ 1000000∧i.natAbs < 2 ^ 64
noncomputable def CMul (i j:Int):Prop:=(-(2 ^ 64) < i∧i < 2 ^ 64) ∨ (-(2 ^ 64) < j∧j < 2 ^ 64)
theorem CMul.ok {i j:Int} (h:CMul i j):IntMulOk i j:=by
 rcases h with ⟨h1,h2⟩ | ⟨h1,h2⟩
 ·exact .of_left (intBits_le_64 h1 h2)
 ·exact .of_right (intBits_le_64 h1 h2)
theorem op_add:OpR X (binaryOp .Add) (rI0 fun i j => .int (i + j)):=opI0 fun _ _ _ _ _ _ _ q => add_int q
theorem op_sub:OpR X (binaryOp .Sub) (rI0 fun i j => .int (i - j)):=opI0 fun _ _ _ _ _ _ _ q => sub_int q
theorem op_mul:OpR X (binaryOp .Mult) (rI CMul fun i j => .int (i * j)):=opI fun _ _ _ _ _ _ _ hc q => mul_int q hc.ok
theorem op_fdiv:OpR X (binaryOp .FloorDiv) (rI CDiv fun i j => .int (i / j)):=opI fun i j _ _ _ _ _ hc q => by
 have h1:(0:Int) < j:=hc.1
 have h2:j < 1073741824:=hc.2
 exact floordiv_int (by omega) (by rw [Int.fdiv_eq_ediv_of_nonneg i (by omega)]; exact q) (.inl (PyProof.noPylong_small (by omega)))
theorem op_mod:OpR X (binaryOp .Mod) (rI (fun _ j => 0 < j) fun i j => .int (i % j)):=opI fun i j _ _ _ _ _ hc q => by
 have h1:(0:Int) < j:=hc
 exact mod_int' (by omega) (by rw [Int.fmod_eq_emod_of_nonneg i (by omega)]; exact q)
theorem op_pow:OpR X (binaryOp .Pow) (rI CPow fun i j => .int (i ^ j.toNat)):=opI fun _ _ _ _ _ _ _ hc q => pow_int_small hc.1 hc.2.1 hc.2.2 q
theorem unI {f:Value→Sem Value} {g:Int→Int}
  (rule:∀ (i:Int) (t:Tok) (s:Shared) (Q:Value→Shared→Prop) (E:Value→Shared→Prop),Q (.int (g i) s.toks) { s with toks:=s.toks + 1 }→wpAny (model X.prog X.w) X.A (f (.int i t)) Q E s) :
  UnR X f (rU fun i => .int (g i)):=by
 intro pins s σ H x v Q I rx h
 obtain ⟨i,rfl,q⟩:=h
 obtain ⟨t,rfl⟩:=rx
 exact rule i t s _ _ ⟨.int (g i),H,I.tok _,⟨_,rfl⟩,q⟩
theorem un_neg:UnR X (unaryOp .USub) (rU fun i => .int (-i)):=unI fun _ _ _ _ _ q => neg_int q
end
noncomputable def scal:V→V→Bool
 | .non,.non => true | .non,.int _ => true | .int _,.non => true | .non,.bl _ => true | .bl _,.non => true | .non,.str _ => true | .str _,.non => true
 | .int _,.int _ => true | .bl _,.bl _ => true | .str _,.str _ => true | .byt _,.byt _ => true
 | .int _,.str _ => true | .str _,.int _ => true | .bl _,.str _ => true | .str _,.bl _ => true
 | _,_ => false
noncomputable def rEq:R2:=fun x y H Q => scal x y = true∧Q (.bl (decide (x = y))) H
noncomputable def rNe:R2:=fun x y H Q => scal x y = true∧Q (.bl (!decide (x = y))) H
theorem dec_int {i j:Int}:decide (V.int i = V.int j) = (i == j):=by
 rw [Bool.eq_iff_iff]
 simp
theorem dec_bl {i j:Bool}:decide (V.bl i = V.bl j) = (i == j):=by
 rw [Bool.eq_iff_iff]
 simp
theorem dec_str {i j:Str}:decide (V.str i = V.str j) = (i == j):=by
 rw [Bool.eq_iff_iff]
 simp
theorem dec_byt {i j:Array UInt8}:decide (V.byt i = V.byt j) = (i.toList == j.toList):=by
 rw [Bool.eq_iff_iff]
 cases i
 cases j
 simp
section
variable {X:Cx} {a b c:Expr} {ta tb tc:TE} {pos:Pos}
theorem fin_bl {pins:List (Addr × Obj)} {σ:St} {H:Hp} {s:Shared} {Q:VK} {k k':Bool} (I:Inv X pins σ H s) (q:Q (.bl k) H) (e:k = k'):EP X pins σ Q (.bool k') s:=by
 subst e
 exact ⟨.bl k,H,I,rfl,q⟩
theorem op_eq:OpR X (compareOp .Eq) rEq:=by
 intro pins s σ H x y v u Q I rx ry h
 obtain ⟨hs,q⟩:=h
 cases x with
 | non =>
  cases rx
  cases y with
  | non => cases ry; exact PySem.EqNone.eq_none_none (fin_bl I q (by simp))
  | bl j => cases ry; exact PySem.EqNone.eq_none_bool (fin_bl I q (by simp))
  | int j => obtain ⟨t',rfl⟩:=ry; exact PySem.EqNone.eq_none_int (fin_bl I q (by simp))
  | str j => obtain ⟨t',rfl⟩:=ry; exact PySem.EqNone.eq_none_str (fin_bl I q (by simp))
  | _ => exact absurd (show false = true from hs) Bool.false_ne_true
 | bl i =>
  cases rx
  cases y with
  | non => cases ry; exact PySem.EqNone.eq_bool_none (fin_bl I q (by simp))
  | bl j => cases ry; exact eq_bool (fin_bl I q dec_bl)
  | str j => obtain ⟨t',rfl⟩:=ry; exact PySem.EqMixed.eq_bool_str (fin_bl I q (by simp))
  | _ => exact absurd (show false = true from hs) Bool.false_ne_true
 | int i =>
  obtain ⟨t,rfl⟩:=rx
  cases y with
  | non => cases ry; exact PySem.EqNone.eq_int_none (fin_bl I q (by simp))
  | int j => obtain ⟨t',rfl⟩:=ry; exact eq_int (fin_bl I q dec_int)
  | str j => obtain ⟨t',rfl⟩:=ry; exact PySem.EqMixed.eq_int_str (fin_bl I q (by simp))
  | _ => exact absurd (show false = true from hs) Bool.false_ne_true
 | str i =>
  obtain ⟨t,rfl⟩:=rx
  cases y with
  | non => cases ry; exact PySem.EqNone.eq_str_none (fin_bl I q (by simp))
  | bl j => cases ry; exact PySem.EqMixed.eq_str_bool (fin_bl I q (by simp))
  | int j => obtain ⟨t',rfl⟩:=ry; exact PySem.EqMixed.eq_str_int (fin_bl I q (by simp))
  | str j => obtain ⟨t',rfl⟩:=ry; exact eq_str (fin_bl I q dec_str)
  | _ => exact absurd (show false = true from hs) Bool.false_ne_true
 | byt i =>
  obtain ⟨t,rfl⟩:=rx
  cases y with
  | byt j => obtain ⟨t',rfl⟩:=ry; exact PySem.W.eq_bytes (fin_bl I q dec_byt)
  | _ => exact absurd (show false = true from hs) Bool.false_ne_true
 | _ => cases y <;> exact absurd (show false = true from hs) Bool.false_ne_true
theorem op_ne:OpR X (compareOp .NotEq) rNe:=by
 intro pins s σ H x y v u Q I rx ry h
 obtain ⟨hs,q⟩:=h
 cases x with
 | non =>
  cases rx
  cases y with
  | non => cases ry; exact PySem.EqNone.ne_none_none (fin_bl I q (by simp))
  | bl j => cases ry; exact PySem.EqNone.ne_none_bool (fin_bl I q (by simp))
  | int j => obtain ⟨t',rfl⟩:=ry; exact PySem.EqNone.ne_none_int (fin_bl I q (by simp))
  | str j => obtain ⟨t',rfl⟩:=ry; exact PySem.EqNone.ne_none_str (fin_bl I q (by simp))
  | _ => exact absurd (show false = true from hs) Bool.false_ne_true
 | bl i =>
  cases rx
  cases y with
  | non => cases ry; exact PySem.EqNone.ne_bool_none (fin_bl I q (by simp))
  | bl j => cases ry; exact ne_bool (fin_bl I q (congrArg not dec_bl))
  | str j => obtain ⟨t',rfl⟩:=ry; exact PySem.EqMixed.ne_bool_str (fin_bl I q (by simp))
  | _ => exact absurd (show false = true from hs) Bool.false_ne_true
 | int i =>
  obtain ⟨t,rfl⟩:=rx
  cases y with
  | non => cases ry; exact PySem.EqNone.ne_int_none (fin_bl I q (by simp))
  | int j => obtain ⟨t',rfl⟩:=ry; exact ne_int (fin_bl I q (congrArg not dec_int))
  | str j => obtain ⟨t',rfl⟩:=ry; exact PySem.EqMixed.ne_int_str (fin_bl I q (by simp))
  | _ => exact absurd (show false = true from hs) Bool.false_ne_true
 | str i =>
  obtain ⟨t,rfl⟩:=rx
  cases y with
  | non => cases ry; exact PySem.EqNone.ne_str_none (fin_bl I q (by simp))
  | bl j => cases ry; exact PySem.EqMixed.ne_str_bool (fin_bl I q (by simp))
  | int j => obtain ⟨t',rfl⟩:=ry; exact PySem.EqMixed.ne_str_int (fin_bl I q (by simp))
  | str j => obtain ⟨t',rfl⟩:=ry; exact ne_str (fin_bl I q (congrArg not dec_str))
  | _ => exact absurd (show false = true from hs) Bool.false_ne_true
 | byt i =>
  obtain ⟨t,rfl⟩:=rx
  cases y with
  | byt j => obtain ⟨t',rfl⟩:=ry; exact PySem.W.ne_bytes (fin_bl I q (congrArg not dec_byt))
  | _ => exact absurd (show false = true from hs) Bool.false_ne_true
 | _ => cases y <;> exact absurd (show false = true from hs) Bool.false_ne_true
theorem op_lt:OpR X (compareOp .Lt) (rI0 fun i j => .bl (decide (i < j))):=opB0 fun _ _ _ _ _ _ _ q => lt_int q
theorem op_le:OpR X (compareOp .LtE) (rI0 fun i j => .bl (decide (i ≤ j))):=opB0 fun _ _ _ _ _ _ _ q => le_int q
theorem op_gt:OpR X (compareOp .Gt) (rI0 fun i j => .bl (decide (j < i))):=opB0 fun _ _ _ _ _ _ _ q => gt_int q
theorem op_ge:OpR X (compareOp .GtE) (rI0 fun i j => .bl (decide (j ≤ i))):=opB0 fun _ _ _ _ _ _ _ q => ge_int q
theorem op_isN:OpR X (compareOp .Is) (fun x y H Q => y = .non∧Q (.bl (decide (x = .non))) H):=by
 intro pins s σ H x y v u Q I rx ry h
 obtain ⟨rfl,q⟩:=h
 cases ry
 refine is_none_gen (fin_bl I q ?_)
 cases x <;> first
  | (cases rx; rfl)
  | (obtain ⟨t,rfl⟩:=rx; rfl)
theorem nomark (b:Expr) {op:CmpOp} (h:op ≠ .In:=by decide) (h2:op ≠ .NotIn:=by decide):behindInMarks op b = false:=by
 have e1:(op == CmpOp.In) = false:=by cases op <;> first | rfl | exact absurd rfl h
 have e2:(op == CmpOp.NotIn) = false:=by cases op <;> first | rfl | exact absurd rfl h2
 cases b <;> simp [behindInMarks,e1,e2]
theorem pe_cmpR {op:CmpOp} {r:R2} (ho:OpR X (compareOp op) r) (ha:PE X a ta) (hb:PE X b tb) (hm:behindInMarks op b = false):PE X (.Compare a [op] [b] pos) (tOp r ta tb):=by
 intro pins s σ H Q I h
 exact wpAny_Compare1 (binT ha hb I h fun v u s2 x y H2 I2 rx ry q => ho pins s2 σ H2 x y v u Q I2 rx ry q) hm
noncomputable def tTest (t:TE):TT:=fun σ H Q => t σ H fun x H' => ∃ k,x = .bl k∧Q k H'
theorem pt_cmpR {op:CmpOp} {r:R2} (ho:OpR X (compareOp op) r) (ha:PE X a ta) (hb:PE X b tb) (hm:behindInMarks op b = false):PT X (.Compare a [op] [b] pos) (tTest (tOp r ta tb)):=by
 intro pins s σ H Q I h
 refine wpAny_isTrue_Compare1 (thn (ha pins s σ H _ I h) fun v s1 ⟨x,H1,I1,r1,q1⟩ => thn (hb pins s1 σ H1 _ I1 q1) fun u s2 ⟨y,H2,I2,r2,q2⟩ =>
  thn (ho pins s2 σ H2 x y v u _ I2 r1 r2 q2) fun c s3 ⟨z,H3,I3,r3,k,e,q3⟩ => ?_) hm
 subst e
 cases r3
 exact wpAny_truthy_bool ⟨H3,I3,q3⟩
noncomputable def tChain (r r':R2) (ta tb tc:TE):TE:=fun σ H Q => ta σ H fun x H1 => tb σ H1 fun y H2 => r x y H2 fun z H3 => ∃ k,z = .bl k ∧
 (if k = true then tc σ H3 fun w' H4 => r' y w' H4 Q else Q (.bl false) H3)
theorem pe_chain {op op':CmpOp} {r r':R2} (ho:OpR X (compareOp op) r) (ho':OpR X (compareOp op') r') (ha:PE X a ta) (hb:PE X b tb) (hc:PE X c tc)
  (hm:lastMarks [op,op'] [b,c] = false:=by with_unfolding_all rfl):PE X (.Compare a [op,op'] [b,c] pos) (tChain r r' ta tb tc):=by
 intro pins s σ H Q I h
 refine Compare_chain (thn (ha pins s σ H _ I h) fun v s1 ⟨x,H1,I1,r1,q1⟩ => chain_link (thn (hb pins s1 σ H1 _ I1 q1) fun u s2 ⟨y,H2,I2,r2,q2⟩ =>
  thn (ho pins s2 σ H2 x y v u _ I2 r1 r2 q2) fun d s3 ⟨z,H3,I3,r3,k,e,q3⟩ => ?_)) hm
 subst e
 cases r3
 refine wpAny_truthy_bool ?_
 cases k with
 | false => exact ite_ff ⟨.bl false,H3,I3,rfl,q3⟩
 | true => exact ite_tt (chain_last (thn (hc pins s3 σ H3 _ I3 q3) fun w' s4 ⟨z',H4,I4,r4,q4⟩ => ho' pins s4 σ H4 y z' u w' Q I4 r2 r4 q4))
theorem line63:(sizeLine:Nat) < 2 ^ 63:=by rw [sizeLine_eq]; decide
theorem vals1 {x:V} {us:List Value} (r:Vals [x] us):∃ u,us = [u]∧RelV x u:=by
 cases r with
 | cons r1 r2 => cases r2; exact ⟨_,rfl,r1⟩
theorem vals2 {x y:V} {us:List Value} (r:Vals [x,y] us):∃ u w',us = [u,w']∧RelV x u∧RelV y w':=by
 cases r with
 | cons r1 r2 =>
  cases r2 with
  | cons r3 r4 => cases r4; exact ⟨_,_,rfl,r1,r3⟩
theorem call_abs:CallR X (.builtin "abs") (fun xs H Q => ∃ i,xs = [.int i]∧Q (.int (if i < 0 then -i else i)) H):=by
 intro pins s σ H xs us Q I r h
 obtain ⟨i,rfl,q⟩:=h
 obtain ⟨u,rfl,t,rfl⟩:=vals1 r
 exact call_abs_int fun u tk => ⟨.int (if i < 0 then -i else i),H,I.tok _,⟨_,rfl⟩,q⟩
theorem call_int1:CallR X (.type "int") (fun xs H Q => (∃ i,xs = [.int i]∧Q (.int i) H) ∨ ∃ k,xs = [.bl k]∧Q (.int (if k then 1 else 0)) H):=by
 intro pins s σ H xs us Q I r h
 rcases h with ⟨i,rfl,q⟩ | ⟨k,rfl,q⟩
 ·obtain ⟨u,rfl,t,rfl⟩:=vals1 r
  exact call_int_int ⟨.int i,H,I,⟨_,rfl⟩,q⟩
 ·obtain ⟨u,rfl,r1⟩:=vals1 r
  cases r1
  exact call_int_bool ⟨.int (if k then 1 else 0),H,I.tok _,⟨_,rfl⟩,q⟩
end
end L2
namespace L2
open PySem PySem.Spec PyProof.Rows
structure ObjM (h:Heap) (x dx C:Addr) (mA:Str→Option Value):Prop where
 obj:h.get? x = some (PySem.W.instObj C dx)
 ns:h.Ns1 dx mA
 ne:dx ≠ x
theorem lookIn_ns {h:Heap} {dx:Addr} {mA:Str→Option Value} (n:h.Ns1 dx mA):∃ od,h.get? dx = some od∧∀ name,PySem.W.lookIn name od = some (mA name):=by
 obtain ⟨o,es,ep,ho,hd,hk,_,hm⟩:=n
 refine ⟨o,ho,fun name => ?_⟩
 have e:=hm name
 unfold nsFind findBy at e
 rw [← Array.find?_toList] at e
 unfold PySem.W.lookIn
 rw [hd]
 dsimp only
 split
 ·rename_i y q
  rw [q] at e
  exact congrArg some e
 ·rename_i q
  rw [q] at e
  have a:es.toList.any (·.refKey) = false:=by
   rw [List.any_eq_false]
   intro y hy
   obtain ⟨z,t,hkey⟩:=hk y (Array.mem_toList_iff.mp hy)
   simp [DictEntry.refKey,hkey]
  have a':¬ es.toList.any (·.refKey) = true:=by rw [a]; exact Bool.false_ne_true
  rw [if_neg a']
  exact congrArg some e
theorem ObjM.look {h:Heap} {x dx C:Addr} {mA:Str→Option Value} (I:ObjM h x dx C mA):∃ od,PySem.W.InstAt h x (PySem.W.instObj C dx) C (some od)∧∀ name,PySem.W.lookIn name od = some (mA name) :=
 let ⟨od,ho,hl⟩:=lookIn_ns I.ns
 ⟨od,⟨I.obj,rfl,rfl,ho⟩,hl⟩
section
variable {prog:Program} {w:World} {A:Around} {E:Value→Shared→Prop} {s:Shared} {K:PySem.W.Frag} {x dx C f:Addr} {mA:Str→Option Value} {name:Str} {v:Value}
end
section
variable {P:Program} {w:World} {H H':Hp} {h h':Heap} {a C dx:Addr} {fs fs':List (Str × V)}
theorem ins_get (hok:HOk P w H h) (e:H a = some (.ins C dx fs)):∃ mA,ObjM h a dx C mA∧(∀ f,RelO (fs.lookup f) (mA f))∧PySem.Within mA (fs.map (·.1))∧fs.length ≤ 1000∧H dx = some (.own a):=by
 obtain ⟨d,z,ne,ob,mA,n,r,q⟩:=(show ObjOk P w H h a (.ins C dx fs) from hok a _ e)
 exact ⟨mA,⟨ob,n,ne⟩,r,q,z,d⟩
end
structure Cls (K:PySem.W.Frag) (C:Addr):Prop where
 pg:PySem.W.plainGet K C Str.empty = true
 hd:PySem.W.hasDictIn K C = true
 po:PySem.W.plainOver K C = true
 sa:PySem.W.findIn K (.ref C) "__setattr__" = some (some (.builtin "object.__setattr__"))
theorem Cls.get {K:PySem.W.Frag} {C:Addr} (c:Cls K C) (f:Str):PySem.W.plainGet K C f = true:=c.pg
section
variable {X:Cx} {pins:List (Addr × Obj)} {σ:St} {H:Hp} {s:Shared} {a C dx:Addr} {fs:List (Str × V)} {f:Str} {v:V} {A:Around} {E:Value→Shared→Prop}
end
section
variable {X:Cx} {o e value:Expr} {f:Str} {pos pos' tpos:Pos} {ta tv:TE}
end
section
variable {X:Cx} {pins:List (Addr × Obj)} {σ:St} {H:Hp} {s:Shared} {A:Around} {E:Value→Shared→Prop} {Q:Value→Shared→Prop} {c:Value} {b:Bool}
inductive TyOf (K:PySem.W.Frag) (H:Hp):V→Value→Prop where
 | non:TyOf K H .non (.type "NoneType")
 | bl (x:Bool):TyOf K H (.bl x) (.type "bool")
 | int (i:Int):TyOf K H (.int i) (.type "int")
 | str (x:Str):TyOf K H (.str x) (.type "str")
 | flt (x:UInt64):TyOf K H (.flt x) (.type "float")
 | lst {a:Addr} {xs:List V} (e:H a = some (.lst xs)):TyOf K H (.ref a) (.type "list")
 | frz {a:Addr} {o:Obj} {xs:List V} (e:H a = some (.frz o (.lst xs))):TyOf K H (.ref a) (.type "list")
 | tup {a:Addr} {xs:List V} (e:H a = some (.tup xs)):TyOf K H (.ref a) (.type "tuple")
 | dK {a:Addr} {kvs:List (Key × V)} (e:H a = some (.dK kvs)):TyOf K H (.ref a) (.type "dict")
 | dT {a:Addr} {kvs:List (List Key × V)} (e:H a = some (.dT kvs)):TyOf K H (.ref a) (.type "dict")
 | ins {a C dx:Addr} {fs:List (Str × V)} (e:H a = some (.ins C dx fs)) (cl:Cls K C) (ha:PySem.W.findIn K (.ref C) "__class__" = some (some (.builtin "object.__class__")))
   (hn:PySem.W.specialIn K (.builtin "object.__class__") "__get__" = some (some (.builtin "getset_descriptor.__get__"))) (htk:PySem.W.takesIn K (.builtin "object.__class__") = some true)
   (hm:PySem.W.mroIn K C (.type "object") = some true):TyOf K H (.ref a) (.ref C)
theorem isinst_ok {x:V} {u t:Value} (I:Inv X pins σ H s) (rx:RelV x u) (ty:TyOf X.K H x t) (e:PySem.W.kitOne X.K t c = some b) (h:∀ tk,Q (.bool b) { s with toks:=tk }) :
  wpAny (model X.prog X.w) A (call (.builtin "isinstance") [u,c]) Q E s:=by
 cases ty with
 | non => cases (show u = Value.none from rx); exact PySem.W.kia_one PySem.W.kitx_none I.kIn True.intro e (fun z => nomatch z) h
 | bl y => cases (show u = Value.bool y from rx); exact PySem.W.kia_one PySem.W.kitx_bool I.kIn True.intro e (fun z => nomatch z) h
 | int i => obtain ⟨t,q⟩:=(show ∃ t,u = Value.int i t from rx); cases q; exact PySem.W.kia_one PySem.W.kitx_int I.kIn True.intro e (fun z => nomatch z) h
 | str y => obtain ⟨t,q⟩:=(show ∃ t,u = Value.str y t from rx); cases q; exact PySem.W.kia_one PySem.W.kitx_str I.kIn True.intro e (fun z => nomatch z) h
 | flt y => obtain ⟨t,q⟩:=(show ∃ t,u = Value.float y t from rx); cases q; exact PySem.W.kia_one PySem.W.kitx_float I.kIn True.intro e (fun z => nomatch z) h
 | @lst a xs ea =>
  cases (show u = Value.ref a from rx)
  obtain ⟨_,_,n,_,h1⟩:=(show ObjOk X.prog X.w H s.heap a (.lst xs) from I.hok a _ ea)
  exact PySem.W.kia_one PySem.W.kitx_list I.kIn ⟨_,h1,rfl⟩ e (fun z => nomatch z) h
 | @frz a ob xs ea =>
  cases (show u = Value.ref a from rx)
  obtain ⟨_,_,_,n,_,h1⟩:=(show ObjOk X.prog X.w H s.heap a (.frz ob (.lst xs)) from I.hok a _ ea)
  exact PySem.W.kia_one PySem.W.kitx_list I.kIn ⟨_,h1,rfl⟩ e (fun z => nomatch z) h
 | @tup a xs ea =>
  cases (show u = Value.ref a from rx)
  obtain ⟨_,_,_,p⟩:=(show ObjOk X.prog X.w H s.heap a (.tup xs) from I.hok a _ ea)
  obtain ⟨o,h1,h2,_⟩:=p
  exact PySem.W.kia_one PySem.W.kitx_tuple I.kIn ⟨o,h1,h2⟩ e (fun z => nomatch z) h
 | @dK a kvs ea =>
  cases (show u = Value.ref a from rx)
  obtain ⟨_,_,vs,_,p⟩:=(show ObjOk X.prog X.w H s.heap a (.dK kvs) from I.hok a _ ea)
  obtain ⟨o,es,ep,h1,h2,_⟩:=p
  exact PySem.W.kia_one PySem.W.kitx_dict I.kIn ⟨o,h1,h2.1⟩ e (fun z => nomatch z) h
 | @dT a kvs ea =>
  cases (show u = Value.ref a from rx)
  obtain ⟨_,_,xs,_,o,es,ep,h1,h2,_⟩:=(show ObjOk X.prog X.w H s.heap a (.dT kvs) from I.hok a _ ea)
  exact PySem.W.kia_one PySem.W.kitx_dict I.kIn ⟨o,h1,h2.1⟩ e (fun z => nomatch z) h
 | @ins a C dx fs ea cl ha hn htk hm =>
  cases (show u = Value.ref a from rx)
  obtain ⟨mA,O,_⟩:=ins_get I.hok ea
  obtain ⟨od,J,_⟩:=O.look
  exact PySem.W.kia_one (PySem.W.kitx_own (cl.get _) cl.hd ha hn htk hm) I.kIn J e (fun z => nomatch z) h
end
end L2
namespace L2
open PySem PySem.Spec PyProof.Rows
structure Room (k:Nat) (A:Around):Prop where
 hd:A.handled = none
 dp:A.depth + 3 * k + 5 < recursionLimit
 un:A.units + 16 * k + 200 < cLine
 gd:A.guards = some []
theorem Room.mono {j k:Nat} {A:Around} (r:Room k A) (h:j ≤ k):Room j A:=⟨r.hd,by have:=r.dp; omega,by have:=r.un; omega,r.gd⟩
theorem Room.deeper {k:Nat} {A:Around} (r:Room (k + 1) A) (env:Env):Room k (A.deeper env) :=
 ⟨r.hd,by have:=r.dp; show A.depth + 1 + 3 * k + 5 < _; omega,by have:=r.un; show A.units + 3 + 16 * k + 200 < _; omega,r.gd⟩
theorem Room.depth {k:Nat} {A:Around} (r:Room k A):A.depth < recursionLimit:=by have:=r.dp; omega
theorem Room.units {k:Nat} {A:Around} (r:Room k A):A.units + 64 < cLine:=by have:=r.un; omega
noncomputable def tNil:TA:=fun _ H Q => Q [] H
noncomputable def tCons (ta:TE) (tr:TA):TA:=fun σ H Q => ta σ H fun x H1 => tr σ H1 fun xs H2 => Q (x :: xs) H2
section
variable {X:Cx} {e:Expr} {es:List Expr} {te:TE} {t:TA} {pos:Pos}
theorem pa_nil:PA X [] tNil:=fun _ _ _ _ H Q I h => Calls.spliced_nil ⟨[],H,I,.nil,h⟩
theorem pa_cons (ha:PE X e te) (hr:PA X es t) (hs:starEach (e :: es) X.env = (false,eval e X.env) :: starEach es X.env:=by rfl):PA X (e :: es) (tCons te t):=by
 intro pos pins s σ H Q I h
 rw [hs]
 show wpAny _ _ (spliced ((false,eval e X.env) :: backTo pos (starEach es X.env))) _ _ s
 refine Calls.spliced_cons (thn (ha pins s σ H _ I h) fun u s1 ⟨x,H1,I1,r1,q1⟩ => ?_)
 exact thn (hr pos pins s1 σ H1 _ I1 q1) fun us s2 ⟨xs,H2,I2,r2,q2⟩ => ⟨x :: xs,H2,I2,.cons r1 r2,q2⟩
noncomputable def tTup (t:TA):TE:=fun σ H Q => t σ H fun xs H1 => xs.length ≤ sizeLine∧∀ p,H1 p = none→Q (.ref p) (upd H1 p (.tup xs))
noncomputable def tLst (t:TA):TE:=fun σ H Q => t σ H fun xs H1 => xs.length ≤ sizeLine∧∀ p,H1 p = none→Q (.ref p) (upd H1 p (.lst xs))
theorem pe_tup {x1} (h:PA X es t):PE X (.Tuple es x1 pos) (tTup t):=by
 intro pins s σ H Q I hq
 refine wpAny_Tuple_spliced (thn (h pos pins s σ H _ I hq) fun us s1 ⟨xs,H1,I1,r,z,q⟩ => ⟨by rw [← r.length]; exact z,?_⟩)
 have hf:H1 s1.heap.objs.size = none:=I1.hok.fresh (Nat.le_refl _)
 refine ⟨.ref s1.heap.objs.size,upd H1 s1.heap.objs.size (.tup xs),I1.laid (t':=s1.toks) (fun b u e => Heap.get?_push_of_some _ e) (Nat.le_refl _) ?_,rfl,q _ hf⟩
 exact ⟨z,us,r,⟨_,Heap.get?_push_size _ rfl,rfl,_,rfl⟩⟩
theorem pe_lst (h:PA X es t):PE X (.List es pos) (tLst t):=by
 intro pins s σ H Q I hq
 refine wpAny_List_spliced (thn (h pos pins s σ H _ I hq) fun us s1 ⟨xs,H1,I1,r,z,q⟩ => ⟨by rw [← r.length]; exact z,?_⟩)
 have hf:H1 s1.heap.objs.size = none:=I1.hok.fresh (Nat.le_refl _)
 refine ⟨.ref s1.heap.objs.size,upd H1 s1.heap.objs.size (.lst xs),I1.laid (t':=s1.toks) (fun b u e => Heap.get?_push_of_some _ e) (Nat.le_refl _) ?_,rfl,q _ hf⟩
 exact ⟨z,us,0,r,Heap.get?_push_size _ rfl⟩
end
noncomputable abbrev Sp:=List V→Hp→VK→XK→Prop
noncomputable abbrev CXT:=List Env→Hp→Shared→XK→Value→Shared→Prop
structure Env0 (P:Program) (w:World) (K:PySem.W.Frag) (mg:Str→Option Value) (base:Heap) (A:Around) (outer:List Env) (s:Shared) (H:Hp):Prop where
 frames:A.frames = some outer
 mod:Mod K mg base
 bs:∀ b o,base.get? b = some o→s.heap.get? b = some o∧H b = none
 bsz:base.objs.size ≤ s.heap.objs.size
 funs:s.heap.FunFrames base outer
 frf:∀ b ∈ frs outer,H b = none
 hok:HOk P w H s.heap
 bare:AllBare s.gens
noncomputable def CE (outer:List Env) (P:Program) (w:World) (H:Hp) (s:Shared) (Q:VK) (u:Value) (s':Shared):Prop :=
 ∃ v H',s'.os = s.os∧AllBare s'.gens∧Un (frs outer) [] H H' s.heap s'.heap∧HOk P w H' s'.heap∧RelV v u∧Q v H'
noncomputable def CR (CX:CXT) (outer:List Env) (P:Program) (w:World) (H:Hp) (s:Shared) (Q:VK) (E:XK) (r:Result) (s':Shared):Prop :=
 match r with
 | .ok (.ret u) => CE outer P w H s Q u s'
 | .ok _ => False
 | .error e => CX outer H s E e s'
structure FnOk (P:Program) (w:World) (K:PySem.W.Frag) (mg:Str→Option Value) (base:Heap) (CX:CXT) (k:Nat) (f:Addr) (fd:FuncData) (ps:List Str) (sp:Sp):Prop where
 len:∀ vs H Q E,sp vs H Q E→vs.length = ps.length
 run:∀ (A:Around) (outer:List Env) (s:Shared) (H:Hp) (args:Args) (us:List Value) (vs:List V) (Q:VK) (E:XK),Room k A→Env0 P w K mg base A outer s H→BindsTo s fd args (ps.zip us)→Vals vs us→sp vs H Q E →
  codeAny (model P w) A (.call (.ref f) args) (CR CX outer P w H s Q E) s
theorem FnOk.imp {P:Program} {w:World} {K:PySem.W.Frag} {mg:Str→Option Value} {base:Heap} {CX:CXT} {k:Nat} {f:Addr} {fd:FuncData} {ps:List Str} {sp sp':Sp} (F:FnOk P w K mg base CX k f fd ps sp)
  (h:∀ vs H Q E,sp' vs H Q E→sp vs H Q E):FnOk P w K mg base CX k f fd ps sp' :=
 ⟨fun vs H Q E q => F.len vs H Q E (h _ _ _ _ q),fun A outer s H args us vs Q E hr he hb hv hs => F.run A outer s H args us vs Q E hr he hb hv (h _ _ _ _ hs)⟩
section
variable {X:Cx} {pins:List (Addr × Obj)} {σ:St} {H:Hp} {s s':Shared}
theorem Inv.env0 (I:Inv X pins σ H s):Env0 X.prog X.w X.K X.mg X.base X.A X.stack s H :=
 ⟨I.ok.frames,I.ok.mod,I.bs,Nat.le_trans I.ok.bsz I.sz,I.stack,I.stkFree,I.hok,I.bare⟩
theorem Inv.after {Q:VK} {u:Value} (I:Inv X pins σ H s) (h:CE X.stack X.prog X.w H s Q u s'):EP X pins σ Q u s':=by
 obtain ⟨v,H',os,bare,un,hok,r,q⟩:=h
 obtain ⟨hh,g,d,t,os'⟩:=s'
 obtain rfl:os' = s.os:=os
 exact ⟨v,H',I.call (h':=hh) (g':=g) (d':=d) (t':=t) (ch:=[]) un hok bare (fun b z => absurd z (by simp)),r,q⟩
end
noncomputable def tCall (sp:Sp) (dvs:List V) (E:XK) (t:TA):TE:=fun σ H Q => t σ H fun vs H1 => sp (vs ++ dvs) H1 Q E
noncomputable def Binds (K:PySem.W.Frag) (fd:FuncData) (ps:List Str) (ds:List Value):Prop :=
 ∀ (s:Shared) (us:List Value),K.In s.heap→(us ++ ds).length = ps.length→BindsTo s fd ⟨us,[]⟩ (ps.zip (us ++ ds))
theorem Binds.all {K:PySem.W.Frag} {fd:FuncData} {ps:List Str} (h:∀ us:List Value,us.length = ps.length→bindArgs fd ⟨us,[]⟩ = pure (ps.zip us)):Binds K fd ps []:=fun s us _ hl => by
 rw [List.append_nil] at hl ⊢
 exact .of_eq (h us hl)
noncomputable def Passes (CX:CXT) (X:Cx) (E:XK):Prop:=∀ (pins:List (Addr × Obj)) (σ:St) (H:Hp) (s:Shared) (e:Value) (s':Shared),Inv X pins σ H s→CX X.stack H s E e s'→X.xe e s'
section
variable {X:Cx} {CX:CXT} {k:Nat} {f C:Addr} {fd:FuncData} {ps:List Str} {sp:Sp} {dvs:List V} {ds:List Value} {E:XK} {x m:Str} {p pos apos:Pos} {e o:Expr} {es:List Expr} {ta:TE} {t:TA}
theorem run_fn {pins:List (Addr × Obj)} {σ:St} {H:Hp} {s:Shared} {Q:VK} {us:List Value} {vs:List V} (F:FnOk X.prog X.w X.K X.mg X.base CX k f fd ps sp) (hr:Room k X.A) (hb:Binds X.K fd ps ds) (hd:Vals dvs ds) (hx:Passes CX X E)
  (I:Inv X pins σ H s) (r:Vals vs us) (h:sp (vs ++ dvs) H Q E):wpAny (model X.prog X.w) X.A (call (.ref f) us) (EP X pins σ Q) X.xe s:=by
 have r2:Vals (vs ++ dvs) (us ++ ds):=r.append hd
 have hl:(us ++ ds).length = ps.length:=by rw [← r2.length]; exact F.len _ _ _ _ h
 refine wpAny_call (codeAny_mono (F.run X.A X.stack s H ⟨us,[]⟩ (us ++ ds) (vs ++ dvs) Q E hr I.env0 (hb s us I.kIn hl) r2 h) fun r s' hq => ?_)
 cases r with
 | error e => exact hx pins σ H s e s' I hq
 | ok fl =>
  cases fl with
  | ret u => exact I.after hq
  | next => exact False.elim hq
  | brk => exact False.elim hq
  | cont => exact False.elim hq
theorem pe_call (F:FnOk X.prog X.w X.K X.mg X.base CX k f fd ps sp) (hr:Room k X.A) (hg:Gl X x) (hm:X.mg x = some (.ref f)) (hk:PySem.W.keepIn X.K (.ref f) = true) (hb:Binds X.K fd ps ds) (hd:Vals dvs ds) (hx:Passes CX X E)
  (ha:PA X (e :: es) t) (hdb:(x == ("__debug__":Str)) = false:=by decide) (he:starEach (e :: es) X.env = (false,eval e X.env) :: starEach es X.env:=by rfl) (hpl:(backTo pos (starEach es X.env)).any (·.1) = false:=by rfl) :
  PE X (.Call (.Name x p) (e :: es) [] pos) (tCall sp dvs E t):=by
 intro pins s σ H Q I h
 refine wpAny_Call_Name_kw (ld_glob I hg hm ?_ hdb)
 refine PySem.W.callWith_K (h₀:=X.base) I.ok.mod.kin hk (thn (ha pos pins s σ H _ I h) fun us s1 ⟨vs,H1,I1,r,q⟩ => ⟨I1.kIn,?_⟩) he hpl
 exact run_fn F hr hb hd hx I1 r q
structure Mk (K:PySem.W.Frag) (C f:Addr):Prop where
 makes:PySem.W.makesIn K C = true
 init:PySem.W.findIn K (.ref C) "__init__" = some (some (.ref f))
 fn:PySem.W.isFn K (.ref f) = true
 kp:PySem.W.keepIn K (.ref C) = true
end
section
variable {X:Cx} {CX:CXT} {k:Nat} {f C:Addr} {fd:FuncData} {ps ks:List Str} {sp:Sp} {E:XK} {x m:Str} {p pos apos kpos:Pos} {e o:Expr} {es:List Expr} {kws:List Keyword} {te ta:TE} {t tk:TA} {nm:Option Str}
variable {g:List Value→List Value→List Value} {gV:List V→List V→List V}
end
structure FnScope (N P:List Str) (sc:Scope):Prop where
 kind:sc.kind = .function
 co:sc.isCoroutine = false
 gen:sc.isGenerator = false
 nd:N.Nodup
 pre:N.take P.length = P
 par:∀ x ∈ P,sc.names.lookup x = some .local ∨ sc.names.lookup x = some .cell
 nofree:∀ y ∈ sc.names,y.2 ≠ .free
theorem bindL_out {kindOf:Str→Option NameKind} {x:Str}:∀ {binds:List (Str × Value)} {m:Str→Option Value},(∀ v,(x,v) ∉ binds)→bindL kindOf binds m x = m x
 | [],_,_ => rfl
 | (n,v) :: r,m,h => by
  unfold bindL
  rw [bindL_out fun w hw => h w (List.mem_cons_of_mem _ hw)]
  split
  ·have:x ≠ n:=by rintro rfl; exact h v List.mem_cons_self
   simp [this]
  ·rfl
theorem bindC_out {kindOf:Str→Option NameKind} {x:Str}:∀ {binds:List (Str × Value)} {m:Str→Option Value},(∀ v,(x,v) ∉ binds)→bindC kindOf binds m x = m x
 | [],_,_ => rfl
 | (n,v) :: r,m,h => by
  unfold bindC
  rw [bindC_out fun w hw => h w (List.mem_cons_of_mem _ hw)]
  split
  ·rfl
  ·have:x ≠ n:=by rintro rfl; exact h v List.mem_cons_self
   simp [this]
theorem bindL_get {kindOf:Str→Option NameKind} {x:Str} {v:Value}:∀ {P:List Str} {vs:List Value} {i:Nat} {m:Str→Option Value},P.Nodup→P[i]? = some x→vs[i]? = some v→kindOf x = some .local →
  bindL kindOf (P.zip vs) m x = some v
 | [],_,_,_,_,h,_,_ => by simp at h
 | _ :: _,[],_,_,_,_,h,_ => by simp at h
 | p :: P,w :: vs,0,m,nd,h1,h2,hk => by
  simp at h1 h2; subst h1; subst h2
  show bindL kindOf ((p,w) :: P.zip vs) m p = _
  unfold bindL
  rw [bindL_out fun v hv => (List.nodup_cons.mp nd).1 (List.of_mem_zip hv).1,if_pos hk]
  simp
 | p :: P,w :: vs,i + 1,m,nd,h1,h2,hk => by
  show bindL kindOf ((p,w) :: P.zip vs) m x = _
  unfold bindL
  exact bindL_get (i:=i) (List.nodup_cons.mp nd).2 (by simpa using h1) (by simpa using h2) hk
theorem bindC_get {kindOf:Str→Option NameKind} {x:Str} {v:Value}:∀ {P:List Str} {vs:List Value} {i:Nat} {m:Str→Option Value},P.Nodup→P[i]? = some x→vs[i]? = some v→kindOf x ≠ some .local →
  bindC kindOf (P.zip vs) m x = some v
 | [],_,_,_,_,h,_,_ => by simp at h
 | _ :: _,[],_,_,_,_,h,_ => by simp at h
 | p :: P,w :: vs,0,m,nd,h1,h2,hk => by
  simp at h1 h2; subst h1; subst h2
  show bindC kindOf ((p,w) :: P.zip vs) m p = _
  unfold bindC
  rw [bindC_out fun v hv => (List.nodup_cons.mp nd).1 (List.of_mem_zip hv).1,if_neg hk]
  simp
 | p :: P,w :: vs,i + 1,m,nd,h1,h2,hk => by
  show bindC kindOf ((p,w) :: P.zip vs) m x = _
  unfold bindC
  exact bindC_get (i:=i) (List.nodup_cons.mp nd).2 (by simpa using h1) (by simpa using h2) hk
noncomputable def start (N:List Str) (vs:List V):St:=vs.map some ++ List.replicate (N.length - vs.length) none
noncomputable def cxOf (CX:CXT) (P:Program) (w:World) (K:PySem.W.Frag) (mg:Str→Option Value) (base:Heap) (N:List Str) (qual:Str) (scope:Scope) (f:Addr) (cd:Value) (A:Around) (outer:List Env) (s:Shared) (H:Hp) (E:XK):Cx where
 prog:=P
 w:=w
 K:=K
 mg:=mg
 base:=base
 A:=A.deeper (envOfC qual scope s.heap.objs.size f cd)
 N:=N
 s₀:=s
 H₀:=H
 env:=envOfC qual scope s.heap.objs.size f cd
 outer:=outer
 stack:=envOfC qual scope s.heap.objs.size f cd :: outer
 ex:=[]
 calm:=true
 fn:=fun _ => true
 pn:=[]
 xe:=fun e s' => wpAny (model P w) (A.deeper (envOfC qual scope s.heap.objs.size f cd)) (leaving (envOfC qual scope s.heap.objs.size f cd) e) (fun _ s'' => CX outer H s E e s'') (fun e' s'' => CX outer H s E e' s'') s'
theorem cell_has {sc:Scope} {n:Nat} {x:Str} (h:sc.names.lookup x = some .cell):∃ c,(cellsFrom n sc.names []).lookup x = some c:=by
 have q:=PySem.W.cellsFrom_some sc.names n [] (.inl h)
 exact Option.isSome_iff_exists.mp q
theorem inv_start {CX:CXT} {P:Program} {w:World} {K:PySem.W.Frag} {mg:Str→Option Value} {base:Heap} {N ps:List Str} {qual:Str} {scope:Scope} {f:Addr} {cd:Value} {A:Around} {outer:List Env} {s s1:Shared} {H:Hp} {E:XK} {us:List Value} {vs:List V}
  (S:FnScope N ps scope) (hd:A.handled = none) (e0:Env0 P w K mg base A outer s H) (hl:vs.length = ps.length) (r:Vals vs us)
  (x:InCallC s s.heap.objs.size (bindL (envOfC qual scope s.heap.objs.size f cd).kindOf (ps.zip us) fun _ => none) (cellsFrom (s.heap.objs.size + 1) scope.names []) (bindC (envOfC qual scope s.heap.objs.size f cd).kindOf (ps.zip us) fun _ => none) s1) :
  Inv (cxOf CX P w K mg base N qual scope f cd A outer s H E) [] (start N vs) H s1:=by
 have hpl:ps.length ≤ N.length:=by have:=congrArg List.length S.pre; rw [List.length_take] at this; omega
 obtain ⟨h1,tk,rfl,hk⟩:=x.done
 have noA:∀ b:Addr,b ∉ (cxOf CX P w K mg base N qual scope f cd A outer s H E).ex:=fun b z => absurd (show b ∈ ([]:List Addr) from z) (by simp)
 refine ⟨⟨e0.mod,S.kind,rfl,rfl,Nat.le_refl _,fun y z c h1 h2 => ?_,fun y hy => ?_,fun y c _ h => ?_,fun _ => hd,Around.frames_deeper e0.frames,.inr ⟨rfl,rfl⟩,fun b z => absurd z (noA b),e0.bs,e0.bsz,fun b _ _ => noA b,fun b z => absurd z (noA b),e0.funs,e0.frf⟩,
  rfl,e0.bare,Un.kept hk,⟨_,x.toInCall.ns,fun i y v h1 h2 h3 => ?_⟩,fun y c h => ⟨_,x.cell y c h⟩,e0.hok.fresh (Nat.le_refl _),fun y c h => ?_,fun p hp => absurd (show p ∈ ([]:List (Addr × Obj)) from hp) (by simp),e0.hok.kept hk,?_⟩
 ·exact name_of_addr x.apart (PySem.mem_of_lookup h1) (PySem.mem_of_lookup h2)
 ·have hy:scope.names.lookup y = some .cell ∨ scope.names.lookup y = some .free:=hy
  rcases hy with hy | hy
  ·exact cell_has hy
  ·exact absurd rfl (S.nofree _ (PySem.mem_of_lookup hy))
 ·exact Nat.le_of_lt (x.above y c (PySem.mem_of_lookup h))
 ·have hi:i < vs.length:=by
   unfold start at h2
   by_cases hi:i < vs.length
   ·exact hi
   ·rw [List.getElem?_append_right (by simpa using hi)] at h2
    rw [List.getElem?_replicate] at h2
    split at h2 <;> cases h2
  have ha:vs[i]? = some v:=by
   unfold start at h2
   rw [List.getElem?_append_left (by simpa using hi),List.getElem?_map] at h2
   cases e:vs[i]? with
   | none => rw [e] at h2; cases h2
   | some a => rw [e] at h2; cases h2; rfl
  obtain ⟨u,hu,rv⟩:=r.get ha
  have hp:ps[i]? = some y:=by
   rw [← S.pre,List.getElem?_take_of_lt (by omega)]; exact h1
  have ndP:ps.Nodup:=by rw [← S.pre]; exact S.nd.sublist (List.take_sublist _ _)
  refine ⟨u,rv,?_⟩
  rcases S.par y (List.mem_of_getElem? hp) with k | k
  ·exact .inl ⟨k,bindL_get ndP hp hu k⟩
  ·obtain ⟨c,e⟩:=cell_has (n:=s.heap.objs.size + 1) k
   refine .inr ⟨.inl k,c,e,?_⟩
   have q:=x.cell y c e
   rw [bindC_get ndP hp hu (by show scope.names.lookup y ≠ _; rw [k]; decide)] at q
   exact q
 ·exact e0.hok.fresh (Nat.le_of_lt (x.above y c (PySem.mem_of_lookup h)))
 ·unfold start
  show _ = N.length
  rw [List.length_append,List.length_map,List.length_replicate]
  omega
theorem fn_of {CX:CXT} {P:Program} {w:World} {K:PySem.W.Frag} {mg:Str→Option Value} {base:Heap} {k:Nat} {f:Addr} {name qual:Str} {params:Arguments} {body:List Stmt} {scope:Scope} {dV kV doc pm cdv ct oc:Value} {an od:Option Addr}
  {osl:Array (Option Value)} {N ps:List Str} {sp:Sp} (lk:K.lookup f = some ⟨oc,od,.func (PySem.W.fnOf name qual params body scope dV kV doc pm an cdv ct),osl⟩) (hcd:PySem.W.codeIn K cdv qual = true) (S:FnScope N ps scope)
  (len:∀ vs H Q E,sp vs H Q E→vs.length = ps.length)
  (hbody:∀ (A:Around) (outer:List Env) (s:Shared) (H:Hp) (vs:List V) (Q:VK) (E:XK),Room k (A.deeper (envOfC qual scope s.heap.objs.size f cdv))→sp vs H Q E →
   ∃ t,PSs (cxOf CX P w K mg base N qual scope f cdv A outer s H E) body t∧t { nx:=fun _ H' => Q .non H',rt:=Q } (start N vs) H) :
  FnOk P w K mg base CX (k + 1) f (PySem.W.fnOf name qual params body scope dV kV doc pm an cdv ct) ps sp:=by
 refine ⟨len,fun A outer s H args us vs Q E hr e0 hb r hsp => ?_⟩
 have hl:=len _ _ _ _ hsp
 have KX:K.In s.heap:=e0.mod.kin.keeps fun b o e => (e0.bs b o e).1
 have lim:s.heap.NoLimit:=e0.mod.nolimit.keeps fun b o e => (e0.bs b o e).1
 have hkind:∀ y ∈ ps.zip us,scope.names.lookup y.1 = some .local ∨ (scope.names.lookup y.1 = some .cell∧((cellsFrom (s.heap.objs.size + 1) scope.names []).lookup y.1).isSome = true):=fun ⟨n,v⟩ hy => by
  rcases S.par n (List.of_mem_zip hy).1 with q | q
  ·exact .inl q
  ·exact .inr ⟨q,PySem.W.cellsFrom_some _ _ _ (.inl q)⟩
 refine codeAny_call_function hr.depth (KX _ _ lk) rfl S.co S.gen rfl (PySem.W.codeRec_of KX hcd) (hb _ _ _ _ ?_)
 refine wpAny_newFunctionEnv_cells S.kind hkind fun env he s1 x => ?_
 subst he
 refine ⟨lim.keeps x.toInCall.keep,codeAny_func ?_⟩
 obtain ⟨t,ht,hq⟩:=hbody A outer s H vs Q E (hr.deeper _) hsp
 have I:Inv (cxOf CX P w K mg base N qual scope f cdv A outer s H E) [] (start N vs) H s1:=inv_start S hr.hd e0 hl r x
 refine wpAny_mono (ht [] s1 (start N vs) H _ I hq) (fun fl s' hs => ?_) fun e s' hs => hs
 have fin:∀ {σ':St} {H':Hp} {v:V} {u:Value},Inv (cxOf CX P w K mg base N qual scope f cdv A outer s H E) [] σ' H' s'→RelV v u→Q v H'→CE outer P w H s Q u s' :=
  fun {σ' H' v u} J rv q => ⟨v,H',J.os,J.bare,J.base,J.hok,rv,q⟩
 cases fl with
 | ret u =>
  obtain ⟨v,σ',H',J,rv,q⟩:=hs
  exact fin J rv q
 | next =>
  obtain ⟨σ',H',J,q⟩:=hs
  exact fin (v:=V.non) (u:=Value.none) J rfl q
 | brk =>
  obtain ⟨_,_,_,q⟩:=hs
  exact False.elim q
 | cont =>
  obtain ⟨_,_,_,q⟩:=hs
  exact False.elim q
end L2
namespace L2
open PySem PySem.Spec PyProof.Rows
section
variable {X:Cx} {x:Str} {p pos:Pos} {e:Expr} {es:List Expr} {t:TA} {id T:String} {r:List V→Hp→VK→Prop}
noncomputable def tCB (r:List V→Hp→VK→Prop) (t:TA):TE:=fun σ H Q => t σ H fun vs H1 => r vs H1 Q
theorem pe_callB (hc:CallR X (.builtin id) r) (hg:Gl X x) (hm:X.mg x = none) (hv:bootBuiltins x = some (.builtin id)) (ha:PA X (e :: es) t) (hn:x ≠ "__name__":=by decide) (hdb:(x == ("__debug__":Str)) = false:=by decide)
  (he:starEach (e :: es) X.env = (false,eval e X.env) :: starEach es X.env:=by rfl) (hpl:(backTo pos (starEach es X.env)).any (·.1) = false:=by rfl):PE X (.Call (.Name x p) (e :: es) [] pos) (tCB r t):=by
 intro pins s σ H Q I h
 refine wpAny_Call_Name_kw (ld_blt I hg hm hv ?_ hn hdb)
 exact PyProof.Rows.callWith_builtin1 (thn (ha pos pins s σ H _ I h) fun us s1 ⟨vs,H1,I1,r1,q1⟩ => hc pins s1 σ H1 vs us Q I1 r1 q1) he hpl
theorem pe_callTy (hc:CallR X (.type T) r) (hg:Gl X x) (hm:X.mg x = none) (hv:bootBuiltins x = some (.type T)) (ha:PA X (e :: es) t) (hn:x ≠ "__name__":=by decide) (hdb:(x == ("__debug__":Str)) = false:=by decide)
  (he:starEach (e :: es) X.env = (false,eval e X.env) :: starEach es X.env:=by rfl) (hpl:(backTo pos (starEach es X.env)).any (·.1) = false:=by rfl):PE X (.Call (.Name x p) (e :: es) [] pos) (tCB r t):=by
 intro pins s σ H Q I h
 refine wpAny_Call_Name_kw (ld_blt I hg hm hv ?_ hn hdb)
 exact PyProof.Rows.callWith_type1 (thn (ha pos pins s σ H _ I h) fun us s1 ⟨vs,H1,I1,r1,q1⟩ => hc pins s1 σ H1 vs us Q I1 r1 q1) he hpl
end
end L2
namespace HT
open PySem PyProof.Rows
noncomputable def lexLt:List Int→List Int→Bool
 | [],[] => false
 | [],_ :: _ => true
 | _ :: _,[] => false
 | x :: xs,y :: ys => if x = y then lexLt xs ys else decide (x < y)
theorem lexLt_cons (x y:Int) (xs ys:List Int):lexLt (x :: xs) (y :: ys) = if x = y then lexLt xs ys else decide (x < y):=rfl
theorem lexLt_nil_nil:lexLt [] [] = false:=rfl
theorem lexLt_nil_cons (y:Int) (ys:List Int):lexLt [] (y :: ys) = true:=rfl
theorem lexLt_cons_nil (x:Int) (xs:List Int):lexLt (x :: xs) [] = false:=rfl
theorem eqAt_int (A:Around) (s:Shared) (a:Int) (t:Tok) (c:Int) (u:Tok):∃ e,SeqAt.EqAt A s (.int a t) (.int c u) e∧(e = true ↔ a = c) :=
 ⟨(a == c),SeqAt.EqAt.int_int a t c u,by simp⟩
theorem rcLt_int (A:Around) (s:Shared) (a:Int) (t:Tok) (c:Int) (u:Tok) (prog:Program) (w:World) (E:Value→Shared→Prop) (Q:Value→Shared→Prop) (h:Q (.bool (decide (a < c))) s) :
  wpAny (model prog w) A (richCompare .Lt (.int a t) (.int c u)) Q E s :=
 (PyProof.Rows.lt_int h:wpAny (model prog w) A (compareOp .Lt (.int a t) (.int c u)) Q E s)
section
open PySem.SeqAt
open PySem.AutoSeq1 (wpAny_loadPart')
open PySem.MeetsSeq PySem.MeetsSeq2 PySem.MeetsSeq3
theorem tuple_lt_ints (l b:Addr) (items items2:Array Value) (n n2:Nat) (dd dd2:Option Addr) (sl sl2:Array (Option Value)) (ns ms:List Int) (hi:IntsAre items.toList ns) (hj:IntsAre items2.toList ms) :
  Meets (Builtin.«tuple.__lt__» ⟨[.ref l,.ref b],[]⟩)
   (fun _ R s => s.heap.get? l = some { cls:=.type "tuple",dict:=dd,data:=.seq items n,slots:=sl }∧s.heap.get? b = some { cls:=.type "tuple",dict:=dd2,data:=.seq items2 n2,slots:=sl2 } ∧
    R (.ok (.ret (.bool (lexLt ns ms)))) s) :=
 .of_wp fun prog w A R s h => by
  obtain ⟨hp,g,d,tk,os⟩:=s; obtain ⟨hl,hb,h⟩:=h
  have f2:=AutoSeq1.sub_tuple_tuple
  have z1:items.size = ns.length:=by rw [← hi.length]; simp
  have z2:items2.size = ms.length:=by rw [← hj.length]; simp
  wp_walk using wpAny_loadPart' hl,wpAny_loadPart' hb,wpAny_forIn_list _ (fun rest b s' => b.1 = none∧s' = ⟨hp,g,d,tk,os⟩∧∃ (vs ws:List Value) (ns' ms':List Int),rest = vs.zip ws ∧
   IntsAre vs ns'∧IntsAre ws ms'∧ns'.length + items2.size = ms'.length + items.size∧R (.ok (.ret (.bool (lexLt ns' ms')))) ⟨hp,g,d,tk,os⟩) _
  case turn =>
   rintro ⟨y,x⟩ rest b s' ⟨hb',rfl,vs,ws,ns',ms',hz,hvi,hwi,hlen,hR⟩
   cases hvi with
   | nil => rw [List.zip_nil_left] at hz; cases hz
   | cons a t hvi' =>
    cases hwi with
    | nil => rw [List.zip_nil_right] at hz; cases hz
    | cons c u hwi' =>
     rw [List.zip_cons_cons] at hz
     injection hz with hyx hrest
     injection hyx with hy hx
     subst hy hx
     rw [lexLt_cons] at hR
     simp only [List.length_cons] at hlen
     obtain ⟨e,he,hiff⟩:=eqAt_int A.in1 ⟨hp,g,d,tk,os⟩ a t c u
     refine wpAny_bind (he prog w _ _ ?_)
     cases e with
     | true =>
      rw [if_pos (hiff.mp rfl)] at hR
      wp_walk
      exact ⟨rfl,rfl,_,_,_,_,hrest,hvi',hwi',by omega,hR⟩
     | false =>
      rw [if_neg (fun q => absurd (hiff.mpr q) Bool.false_ne_true)] at hR
      have hri:=rcLt_int A.in1 ⟨hp,g,d,tk,os⟩ a t c u prog w
      wp_walk using hri
      exact ⟨_,rfl,by simpa using hR⟩
  case fin =>
   rintro ⟨b1,b2⟩ s' ⟨hb',rfl,vs,ws,ns',ms',hz,hvi,hwi,hlen,hR⟩
   simp only at hb'
   subst hb'
   have hv:lexLt ns' ms' = decide (items.size < items2.size):=by
    cases hvi with
    | nil =>
     cases hwi with
     | nil =>
      simp only [List.length_nil] at hlen
      rw [lexLt_nil_nil]
      exact (decide_eq_false (by omega)).symm
     | cons c u hw =>
      simp only [List.length_nil,List.length_cons] at hlen
      rw [lexLt_nil_cons]
      exact (decide_eq_true (by omega)).symm
    | cons a t hv =>
     cases hwi with
     | nil =>
      simp only [List.length_nil,List.length_cons] at hlen
      rw [lexLt_cons_nil]
      exact (decide_eq_false (by omega)).symm
     | cons c u hw =>
      rw [List.zip_cons_cons] at hz
      cases hz
   rw [hv] at hR
   wp_walk
   exact ⟨_,rfl,by simpa [Builtin.Tuple.tupleCompareSizes] using hR⟩
  case h =>
   exact ⟨rfl,rfl,items.toList,items2.toList,ns,ms,rfl,hi,hj,by omega,h⟩
end
section
variable {prog:Program} {w:World} {A:Around} {E:Value→Shared→Prop} {s:Shared}
theorem lt_tupInts {l b:Addr} {items items2:Array Value} {ns ms:List Int} {Q:Value→Shared→Prop} (hl:IsTup s.heap l items) (hb:IsTup s.heap b items2) (hi:IntsAre items.toList ns) (hj:IntsAre items2.toList ms)
  (hu:A.units < cLine) (h:Q (.bool (lexLt ns ms)) s):wpAny (model prog w) A (compareOp .Lt (.ref l) (.ref b)) Q E s:=by
 obtain ⟨⟨cls,dd,data,sl⟩,ho,hc,n,hd⟩:=id hl
 obtain ⟨⟨cls2,dd2,data2,sl2⟩,ho2,hc2,n2,hd2⟩:=id hb
 simp only at hc hd hc2 hd2
 subst hc hd hc2 hd2
 exact richCompare_meets_room (op:=.Lt) ⟨_,ho,rfl⟩ ⟨_,ho2,rfl⟩ PySem.F.slot_tuple_lt PySem.F.entry_tuple_lt (PySem.F.args_tuple_lt_2 _ _) (tuple_lt_ints l b items items2 n n2 dd dd2 sl sl2 ns ms hi hj)
  ⟨ho,ho2,show Value.bool (lexLt ns ms) ≠ Value.notImplemented∧Q (.bool (lexLt ns ms)) s from ⟨(fun x => nomatch x),h⟩⟩ hu
theorem cat_tup {t b:Addr} {vs ws:List Value} {Q:Value→Shared→Prop} (ht:IsTup s.heap t vs.toArray) (hb:IsTup s.heap b ws.toArray) (hv:vs ≠ [])
  (h1:ws = []→Q (.ref t) s) (h2:ws ≠ []→Q (.ref s.heap.objs.size) { s with heap:=s.heap.push { cls:=.type "tuple",data:=.seq (vs ++ ws).toArray } })
  (hsz:vs.length + ws.length ≤ sizeLine):wpAny (model prog w) A (binaryOp .Add (.ref t) (.ref b)) Q E s:=by
 obtain ⟨⟨cls,dd,data,sl⟩,ho,hc,n,hd⟩:=id ht
 obtain ⟨⟨cls2,dd2,data2,sl2⟩,ho2,hc2,n2,hd2⟩:=id hb
 simp only at hc hd hc2 hd2
 subst hc hd hc2 hd2
 have e:vs.toArray ++ ws.toArray = (vs ++ ws).toArray:=by simp
 by_cases hw:ws = []
 ·exact concat_meets ⟨_,ho,rfl⟩ ⟨_,ho2,rfl⟩ noFill_tuple_add seq_tuple_add PySem.F.slot_tuple_add PySem.F.entry_tuple_add (PySem.F.args_tuple_add_2 _ _)
   (tuple_addW1 t b vs.toArray ws.toArray n n2 dd dd2 sl sl2 (by simpa using hv) (by simp [hw])) ⟨ho,ho2,h1 hw⟩
 ·refine concat_meets ⟨_,ho,rfl⟩ ⟨_,ho2,rfl⟩ noFill_tuple_add seq_tuple_add PySem.F.slot_tuple_add PySem.F.entry_tuple_add (PySem.F.args_tuple_add_2 _ _)
   (tuple_addW2 t b vs.toArray ws.toArray n n2 dd dd2 sl sl2 (by simpa using hv) (by simpa using hw) (by rw [List.size_toArray,List.size_toArray]; exact hsz)) ⟨ho,ho2,?_⟩
  rw [e]
  exact h2 hw
noncomputable def sIx (n d:Nat):Option Int→Nat
 | none => d
 | some v => if v < 0 then (v + (n:Int)).toNat else min v.toNat n
theorem sIx_nat (n d k:Nat):sIx n d (some (k:Int)) = min k n:=by
 show (if (k:Int) < 0 then ((k:Int) + (n:Int)).toNat else min (k:Int).toNat n) = min k n
 rw [if_neg (by omega),Int.toNat_natCast]
theorem sIx_le (n d:Nat) (hd:d ≤ n) (o:Option Int):sIx n d o ≤ n:=by
 cases o with
 | none => exact hd
 | some v =>
  show (if v < 0 then (v + (n:Int)).toNat else min v.toNat n) ≤ n
  by_cases hv:v < 0
  ·rw [if_pos hv]; omega
  ·rw [if_neg hv]; exact Nat.min_le_right _ _
theorem clip_eq (v:Int) (n d:Nat):(if v < 0 then max (v + (n:Int)) 0 else min v (n:Int)) = ((sIx n d (some v):Nat):Int):=by
 show (if v < 0 then max (v + (n:Int)) 0 else min v (n:Int)) = (((if v < 0 then (v + (n:Int)).toNat else min v.toNat n):Nat):Int)
 by_cases hv:v < 0
 ·simp only [if_pos hv]; omega
 ·simp only [if_neg hv]; omega
theorem adjust_gen (lo hi:Option Int) (n:Nat):Builtin.Slice.sliceAdjust lo hi 1 (n:Int) = (((sIx n 0 lo:Nat):Int),((sIx n n hi:Nat):Int)):=by
 have h1:¬ ((1:Int) < 0):=by omega
 unfold Builtin.Slice.sliceAdjust
 simp only [h1,if_false]
 refine Prod.ext ?_ ?_
 ·cases lo with
  | none => rfl
  | some v => exact clip_eq v n 0
 ·cases hi with
  | none => rfl
  | some v => exact clip_eq v n n
theorem places_gen (i j:Nat):Builtin.Slice.slicePlaces (i:Int) (j:Int) 1 = j - i:=by
 unfold Builtin.Slice.slicePlaces
 have h1:(1:Int) > 0:=by omega
 simp only [h1,if_true,Int.ediv_one]
 split <;> omega
theorem slicePart_ {v:Value} {o:Option Int} {Q:Option Int→Shared→Prop} (p:IsPart v o) (h:Q o s):wpAny (model prog w) A (Builtin.Slice.slicePartIndex v) Q E s:=by
 cases p with
 | none => exact slicePart_none h
 | int i t => exact slicePart_int h
theorem sliceApplied_gen {sl:Addr} {vl vu:Value} {lo hi:Option Int} {n:Nat} {Q:Int × Int × Nat→Shared→Prop} (hs:s.heap.IsSliceOf sl vl vu .none) (pl:IsPart vl lo) (pu:IsPart vu hi)
  (h:Q (((sIx n 0 lo:Nat):Int),1,sIx n n hi - sIx n 0 lo) s):wpAny (model prog w) A (Builtin.Slice.sliceApplied (.ref sl) (pure (n:Int))) Q E s:=by
 obtain ⟨os,hos,hcs,hds⟩:=id hs
 unfold Builtin.Slice.sliceApplied Builtin.Slice.sliceFields
 refine wpAny_bind (wpAny_bind (wpAny_field hos hds (x:=vl) rfl (wpAny_bind (wpAny_field hos hds (x:=vu) rfl (wpAny_bind (wpAny_field hos hds (x:=.none) rfl (wpAny_pure ?_)))))))
 refine wpAny_bind (slicePart_none ?_)
 show wpAny _ _ (if ((1:Int) == 0) = true then _ else _) _ _ s
 rw [if_neg (by decide)]
 refine wpAny_bind (slicePart_ pl (wpAny_bind (slicePart_ pu (wpAny_bind (wpAny_pure ?_)))))
 show wpAny _ _ (match Builtin.Slice.sliceAdjust lo hi 1 (n:Int) with | (lo,hi) => pure (lo,(1:Int),Builtin.Slice.slicePlaces lo hi 1)) _ _ s
 rw [adjust_gen lo hi n]
 show wpAny _ _ (pure (((sIx n 0 lo:Nat):Int),(1:Int),Builtin.Slice.slicePlaces ((sIx n 0 lo:Nat):Int) ((sIx n n hi:Nat):Int) 1)) _ _ s
 rw [places_gen]
 exact wpAny_pure h
theorem pick_gen (xs:Array Value) (i k:Nat):((List.range k).filterMap fun (m:Nat) => xs[((i:Int) + (m:Int) * 1).toNat]?).toArray = ((xs.toList.drop i).take k).toArray:=by
 have e:(fun (m:Nat) => xs[((i:Int) + (m:Int) * 1).toNat]?) = fun m => xs[i + m]?:=by
  funext m
  have:((i:Int) + (m:Int) * 1).toNat = i + m:=by omega
  rw [this]
 rw [e]
 have:=pick_run xs i k
 rw [List.filterMap_map] at this
 have e2:((fun x => xs[x]?) ∘ fun x => i + x) = fun m => xs[i + m]?:=rfl
 rw [e2] at this
 rw [this]
theorem getItem_tuple_cut {t sl:Addr} {items:Array Value} {vl vu:Value} {lo hi:Option Int} {Q:Value→Shared→Prop} (ht:IsTup s.heap t items) (hs:s.heap.IsSliceOf sl vl vu .none) (pl:IsPart vl lo) (pu:IsPart vu hi)
  (hw:¬ (sIx items.size 0 lo = 0∧sIx items.size items.size hi = items.size))
  (h:Q (.ref s.heap.objs.size) { s with heap:=s.heap.push { cls:=.type "tuple",data:=.seq ((items.toList.drop (sIx items.size 0 lo)).take (sIx items.size items.size hi - sIx items.size 0 lo)).toArray } })
  (hsz:items.size ≤ sizeLine):wpAny (model prog w) A (getItem (.ref t) (.ref sl)) Q E s:=by
 have htake:sizeOk (.seq ((items.toList.drop (sIx items.size 0 lo)).take (sIx items.size items.size hi - sIx items.size 0 lo)).toArray):=by
  show ((items.toList.drop (sIx items.size 0 lo)).take (sIx items.size items.size hi - sIx items.size 0 lo)).toArray.size ≤ sizeLine
  rw [List.size_toArray,List.length_take,List.length_drop,Array.length_toList]
  omega
 have hj:sIx items.size items.size hi ≤ items.size:=sIx_le _ _ (Nat.le_refl _) hi
 obtain ⟨os,hos,hcs,hds⟩:=id hs
 have hTs:s.TypeIs (.ref sl) "slice":=⟨os,hos,hcs⟩
 unfold getItem
 try with_reducible refine wpAny_holding ?_
 first | refine wpAny_bind (wpAny_pure ?_) | skip
 refine wpAny_bind (wpAny_sequenceKey ht.typeIs (by decide) ?_)
 refine wpAny_bind (wpAny_callSpecial?_slot (name:=Str.ofString "__getitem__") ht.typeIs PyProof.Rows.slot_tuple_getitem
  (wpAny_call_entry PyProof.Rows.slot_tuple_getitem ht.typeIs entry_tuple_getitem ?_ (args_tuple_getitem _ _)))
 show wpAny _ _ (Builtin.Tuple.tupleItemsOf (.ref t) >>= _) _ _ s
 refine wpAny_bind (tupleItemsOf_ ht ?_)
 refine wpAny_bind (wpAny_typeOf hTs ?_)
 rw [if_pos (by decide)]
 refine wpAny_bind (sliceApplied_gen hs pl pu ?_)
 have hno:¬ ((((sIx items.size 0 lo:Nat):Int) == 0 && (1:Int) == 1 && (sIx items.size items.size hi - sIx items.size 0 lo) == items.size) = true):=by
  intro q
  rw [Bool.and_eq_true,Bool.and_eq_true] at q
  have q1:((sIx items.size 0 lo:Nat):Int) = 0:=eq_of_beq q.1.1
  have q2:sIx items.size items.size hi - sIx items.size 0 lo = items.size:=eq_of_beq q.2
  exact hw ⟨by omega,by omega⟩
 show wpAny _ _ (if (((sIx items.size 0 lo:Nat):Int) == 0 && (1:Int) == 1 && (sIx items.size items.size hi - sIx items.size 0 lo) == items.size) = true then _ else _) _ _ s
 rw [if_neg hno,pick_gen]
 first
  | exact wpAny_bind (m:=Builtin.Tuple.tupleExact _) (wpAny_newObj_type (wpAny_pure ⟨_,rfl,wpAny_pure h⟩) htake)
  | exact wpAny_bind (m:=Builtin.Tuple.tupleExact _) (wpAny_newObj_type (wpAny_bind (wpAny_pure (wpAny_pure ⟨_,rfl,wpAny_pure h⟩))) htake)
  | exact wpAny_bind (wpAny_bind (m:=Builtin.Tuple.tupleExact _) (wpAny_newObj_type (wpAny_pure (wpAny_pure ⟨_,rfl,wpAny_pure h⟩)) htake))
  | exact wpAny_bind (wpAny_bind (m:=Builtin.Tuple.tupleExact _) (wpAny_newObj_type (wpAny_pure ⟨_,rfl,wpAny_pure h⟩) htake))
end
end HT
namespace L2
open PySem PySem.Spec PyProof.Rows
noncomputable abbrev TO:=St→Hp→(Option Int→Hp→Prop)→Prop
noncomputable def PO (X:Cx) (e:Option Expr) (t:TO):Prop :=
 ∀ (pins:List (Addr × Obj)) (s:Shared) (σ:St) (H:Hp) (Q:Option Int→Hp→Prop),Inv X pins σ H s→t σ H Q →
  wpAny (model X.prog X.w) X.A (evalPart e X.env) (fun u s' => ∃ o H',Inv X pins σ H' s'∧IsPart u o∧Q o H') X.xe s
noncomputable def tNoPart:TO:=fun _ H Q => Q none H
noncomputable def tPart (t:TE):TO:=fun σ H Q => t σ H fun x H1 => ∃ i,x = .int i∧Q (some i) H1
theorem intsAre_of {ns:List Int}:∀ {us:List Value},Vals (ns.map V.int) us→IntsAre us ns:=by
 induction ns with
 | nil => intro us r; rw [List.map_nil] at r; cases r; exact .nil
 | cons n ns ih =>
  intro us r
  rw [List.map_cons] at r
  cases r with
  | cons r1 r2 =>
   obtain ⟨t,e⟩:=r1
   subst e
   exact .cons n t (ih r2)
section
variable {X:Cx} {e:Expr} {te:TE} {lo hi:Option Expr} {tl th:TO} {pos p2:Pos}
theorem po_none:PO X none tNoPart:=by
 intro pins s σ H Q I h
 rw [evalPart_none]
 exact wpAny_pure ⟨none,H,I,.none,h⟩
theorem po_some (h:PE X e te):PO X (some e) (tPart te):=by
 intro pins s σ H Q I hw
 rw [evalPart_some]
 refine thn (h pins s σ H _ I hw) fun u s1 ⟨x,H1,I1,r1,q1⟩ => ?_
 obtain ⟨i,rfl,q⟩:=q1
 obtain ⟨t,rfl⟩:=r1
 exact ⟨some i,H1,I1,.int i t,q⟩
noncomputable def SlR (X:Cx) (r:V→Option Int→Option Int→Hp→VK→Prop):Prop :=
 ∀ (pins:List (Addr × Obj)) (s:Shared) (σ:St) (H:Hp) (x:V) (v vl vu:Value) (lo hi:Option Int) (sl:Addr) (Q:VK),Inv X pins σ H s→RelV x v→s.heap.IsSliceOf sl vl vu .none→IsPart vl lo→IsPart vu hi→r x lo hi H Q →
  ∃ T id,typeLookup (.type T) "__getitem__" = pure (some (.builtin id))∧s.TypeIs v T∧wpAny (model X.prog X.w) X.A (getItem v (.ref sl)) (EP X pins σ Q) X.xe s
noncomputable def tSl (r:V→Option Int→Option Int→Hp→VK→Prop) (te:TE) (tl th:TO):TE:=fun σ H Q => te σ H fun x H1 => tl σ H1 fun l H2 => th σ H2 fun u H3 => r x l u H3 Q
theorem pe_slice {r:V→Option Int→Option Int→Hp→VK→Prop} (hr:SlR X r) (he:PE X e te) (hl:PO X lo tl) (hu:PO X hi th):PE X (.Subscript e (.Slice lo hi none p2) pos) (tSl r te tl th):=by
 intro pins s σ H Q I h
 refine Subscript_ (thn (he pins s σ H _ I h) fun v s1 ⟨x,H1,I1,r1,q1⟩ => ?_)
 refine wpAny_Slice (thn (hl pins s1 σ H1 _ I1 q1) fun vl s2 ⟨l,H2,I2,pl,q2⟩ => thn (hu pins s2 σ H2 _ I2 q2) fun vu s3 ⟨u,H3,I3,pu,q3⟩ => ?_)
 rw [evalPart_none]
 refine wpAny_pure ?_
 have I4:Inv X pins σ H3 { s3 with heap:=s3.heap.push { cls:=.type "slice",data:=.fields #[vl,vu,.none] } }:=I3.kept (t':=s3.toks) fun b ob q => Heap.get?_push_of_some _ q
 obtain ⟨T,id,hT,ht,hg⟩:=hr pins { s3 with heap:=s3.heap.push { cls:=.type "slice",data:=.fields #[vl,vu,.none] } } σ H3 x v vl vu l u s3.heap.objs.size Q I4 r1 (Heap.IsSliceOf.new ..) pl pu q3
 show wpAny (model X.prog X.w) X.A (subscriptTail e (.Slice lo hi none p2) v (.ref s3.heap.objs.size)) (EP X pins σ Q) X.xe { s3 with heap:=s3.heap.push { cls:=.type "slice",data:=.fields #[vl,vu,.none] } }
 exact tail_any (ops:=[.ref s3.heap.objs.size,v]) ht hT hg (by with_unfolding_all rfl)
noncomputable def cutV (xs:List V) (lo hi:Option Int):List V:=(xs.drop (HT.sIx xs.length 0 lo)).take (HT.sIx xs.length xs.length hi - HT.sIx xs.length 0 lo)
theorem cutV_length (xs:List V) (lo hi:Option Int):(cutV xs lo hi).length ≤ xs.length:=by
 unfold cutV
 rw [List.length_take,List.length_drop]
 omega
noncomputable def rLtT (K:PySem.W.Frag):R2:=fun x y H Q => ∃ a b ns ms,x = .ref a∧y = .ref b∧SqT K H a (ns.map V.int)∧SqT K H b (ms.map V.int)∧Q (.bl (HT.lexLt ns ms)) H
theorem op_ltT (hu:X.A.units < cLine):OpR X (compareOp .Lt) (rLtT X.K):=by
 intro pins s σ H x y v u Q I rx ry h
 obtain ⟨a,b,ns,ms,rfl,rfl,ha,hb,q⟩:=h
 cases rx
 cases ry
 obtain ⟨its,r1,p1,_⟩:=I.tuple ha
 obtain ⟨its2,r2,p2,_⟩:=I.tuple hb
 have i1:IntsAre its.toArray.toList ns:=intsAre_of r1
 have i2:IntsAre its2.toArray.toList ms:=intsAre_of r2
 exact HT.lt_tupInts p1 p2 i1 i2 hu ⟨.bl (HT.lexLt ns ms),H,I,rfl,q⟩
theorem Vals.nil_iff {xs:List V} {us:List Value} (r:Vals xs us):us = [] ↔ xs = []:=by
 cases r with
 | nil => simp
 | cons _ _ => simp
end
end L2
namespace L2
open PySem PySem.Spec PyProof.Rows
noncomputable def ixN (n:Nat) (i:Int):Option Nat:=if 0 ≤ i then (if i < n then some i.toNat else none) else if -(n:Int) ≤ i then some (i + n).toNat else none
noncomputable def atI {α:Type} (xs:List α) (i:Int):Option α:=(ixN xs.length i).bind fun j => xs[j]?
theorem ixN_seq {n:Nat} {i:Int} {j:Nat} (h:ixN n i = some j):seqIndex? i n = some j∧j < n∧-(n:Int) ≤ i∧i < n:=by
 unfold ixN at h
 by_cases h0:0 ≤ i
 ·rw [if_pos h0] at h
  by_cases h1:i < n
  ·rw [if_pos h1] at h
   have e:i.toNat = j:=Option.some.inj h
   exact ⟨by rw [seqIndex_of h0 h1,e],by omega,by omega,h1⟩
  ·rw [if_neg h1] at h; cases h
 ·rw [if_neg h0] at h
  by_cases h1:-(n:Int) ≤ i
  ·rw [if_pos h1] at h
   have e:(i + n).toNat = j:=Option.some.inj h
   exact ⟨by rw [seqIndex_neg (by omega) h1,e],by omega,h1,by omega⟩
  ·rw [if_neg h1] at h; cases h
theorem atI_get {α:Type} {xs:List α} {i:Int} {v:α} (h:atI xs i = some v):∃ j,seqIndex? i xs.length = some j∧xs[j]? = some v∧j < xs.length∧-(xs.length:Int) ≤ i∧i < xs.length:=by
 unfold atI at h
 cases e:ixN xs.length i with
 | none => rw [e] at h; cases h
 | some j =>
  rw [e] at h
  obtain ⟨h1,h2,h3,h4⟩:=ixN_seq e
  exact ⟨j,h1,h,h2,h3,h4⟩
theorem atI_nat {α:Type} {xs:List α} {j:Nat} {v:α} (h:xs[j]? = some v):atI xs (j:Int) = some v:=by
 have hj:j < xs.length:=(List.getElem?_eq_some_iff.mp h).1
 have e:ixN xs.length (j:Int) = some j:=by
  unfold ixN
  rw [if_pos (by omega),if_pos (by omega)]; simp
 unfold atI; rw [e]; exact h
noncomputable def PlainIx (b:Expr):Prop:=∀ o i,subscripted b false o i = operate [o,i] (getItem o i)
noncomputable def IxR (X:Cx) (r:R2):Prop :=
 ∀ (value slice:Expr) (pins:List (Addr × Obj)) (s:Shared) (σ:St) (H:Hp) (x y:V) (v u:Value) (Q:VK),Inv X pins σ H s→RelV x v→RelV y u→r x y H Q →
  subscripted slice false v u = operate [v,u] (getItem v u)→wpAny (model X.prog X.w) X.A (subscriptTail value slice v u) (EP X pins σ Q) X.xe s
noncomputable def MtR (X:Cx) (id:String) (r:V→List V→Hp→VK→Prop):Prop :=
 ∀ (pins:List (Addr × Obj)) (s:Shared) (σ:St) (H:Hp) (x:V) (xs:List V) (v:Value) (us:List Value) (Q:VK),Inv X pins σ H s→RelV x v→Vals xs us→r x xs H Q →
  wpAny (model X.prog X.w) X.A (call (.builtin id) (v :: us)) (EP X pins σ Q) X.xe s
section
variable {X:Cx} {a b:Expr} {ta tb:TE} {pos:Pos}
theorem pe_ix {r:R2} (hr:IxR X r) (ha:PE X a ta) (hb:PE X b tb) (hs:PlainIx b):PE X (.Subscript a b pos) (tOp r ta tb):=by
 intro pins s σ H Q I h
 exact Subscript_ (binT ha hb I h fun v u s2 x y H2 I2 rx ry q => hr a b pins s2 σ H2 x y v u Q I2 rx ry q (hs _ _))
noncomputable def rIxL (K:PySem.W.Frag):R2:=fun x y H Q => ∃ p xs i v,x = .ref p∧y = .int i∧SqL K H p xs∧atI xs i = some v∧Q v H
noncomputable def rIxT (K:PySem.W.Frag):R2:=fun x y H Q => ∃ p xs i v,x = .ref p∧y = .int i∧SqT K H p xs∧atI xs i = some v∧Q v H
theorem ix_list:IxR X (rIxL X.K):=by
 intro value slice pins s σ H x y v u Q I rx ry h hs
 obtain ⟨p,xs,i,z,rfl,rfl,hq,he,q⟩:=h
 cases rx
 obtain ⟨t,rfl⟩:=ry
 obtain ⟨its,r,pl,hz⟩:=I.list hq
 obtain ⟨j,h1,h2,h3,h4,h5⟩:=atI_get he
 obtain ⟨w,ew,rw'⟩:=r.get h2
 have hl:=r.length
 have hn:=line63
 have fin:EP X pins σ Q w s:=⟨z,H,I,rw',q⟩
 by_cases h0:0 ≤ i
 ·have hj:i.toNat = j:=by
   rw [seqIndex_of h0 h5] at h1
   exact Option.some.inj h1
  exact item_listR pl.isList h0 (by omega) (by rw [hj]; simpa using ew) fin hs
 ·have hj:(i + (its.toArray.size:Int)).toNat = j:=by
   rw [seqIndex_neg (by omega) h4] at h1
   rw [List.size_toArray,← hl]
   exact Option.some.inj h1
  exact subscriptTail_builtinR (x:=w) pl.isList.typeIs slot_list_getitem.lookup
   (wpAny_getItem_list_neg (Q:=fun r s' => r = w∧EP X pins σ Q r s') pl.isList (by omega) (by rw [List.size_toArray] <;> omega) (by omega) (by rw [hj]; simpa using ew) ⟨rfl,fin⟩) hs
theorem ix_tup:IxR X (rIxT X.K):=by
 intro value slice pins s σ H x y v u Q I rx ry h hs
 obtain ⟨p,xs,i,z,rfl,rfl,hq,he,q⟩:=h
 cases rx
 obtain ⟨t,rfl⟩:=ry
 obtain ⟨its,r,pl,hz⟩:=I.tuple hq
 obtain ⟨j,h1,h2,h3,h4,h5⟩:=atI_get he
 obtain ⟨w,ew,rw'⟩:=r.get h2
 have hl:=r.length
 have hn:=line63
 have fin:EP X pins σ Q w s:=⟨z,H,I,rw',q⟩
 exact subscriptTail_builtinR (x:=w) pl.typeIs slot_tuple_getitem.lookup
  (getItem_tuple (j:=j) (Q:=fun r s' => r = w∧EP X pins σ Q r s') pl (by omega) (by omega) (by rw [List.size_toArray,← hl]; exact h1) (by simpa using ew) ⟨rfl,fin⟩) hs
theorem mapSeq_set (its:List Value) (n j:Nat) (u:Value):Obj.mapSeq (·.setIfInBounds j u) { cls:=.type "list",data:=.seq its.toArray n } = { cls:=.type "list",data:=.seq (its.set j u).toArray n }:=by
 simp [Obj.mapSeq]
theorem Inv.lst {pins:List (Addr × Obj)} {σ:St} {H:Hp} {s:Shared} {p:Addr} {xs:List V} (I:Inv X pins σ H s) (h:H p = some (.lst xs)) :
  ∃ (its:List Value) (n:Nat),Vals xs its∧s.heap.get? p = some { cls:=.type "list",data:=.seq its.toArray n }∧xs.length ≤ sizeLine:=by
 obtain ⟨z,its,n,r,e⟩:=I.hok p _ h
 exact ⟨its,n,r,e,z⟩
theorem Inv.lstUpd {pins:List (Addr × Obj)} {σ:St} {H:Hp} {s:Shared} {p:Addr} {xs ys:List V} {its its':List Value} {n n':Nat} {f:Obj→Obj} (I:Inv X pins σ H s) (h:H p = some (.lst xs))
  (ho:s.heap.get? p = some { cls:=.type "list",data:=.seq its.toArray n }) (hf:f { cls:=.type "list",data:=.seq its.toArray n } = { cls:=.type "list",data:=.seq its'.toArray n' }) (r:Vals ys its') (hz:ys.length ≤ sizeLine) (t:Nat) :
  Inv X pins σ (upd H p (.lst ys)) { s with heap:=s.heap.update p f,toks:=t }:=by
 have e:(s.heap.update p f).get? p = some { cls:=.type "list",data:=.seq its'.toArray n' }:=by
  rw [Heap.get?_update_self f ho (by rw [hf] <;> rfl),hf]
 refine I.write (x:=p) (e:=p) (by rw [h]; trivial) (.inl rfl) (fun b u hb q => (Heap.get?_update_other _ _ (Ne.symm hb)).trans q) ⟨_,e⟩ ?_
 exact ⟨hz,its',n',r,e⟩
noncomputable def rSetL:V→V→V→Hp→(Hp→Prop)→Prop:=fun o i v H Q => ∃ p xs k j,o = .ref p∧i = .int k∧H p = some (.lst xs)∧ixN xs.length k = some j∧Q (upd H p (.lst (xs.set j v)))
theorem set_list:PSet X rSetL:=by
 intro pins s σ H o i v ov iv u Q I ro ri rv h
 obtain ⟨p,xs,k,j,rfl,rfl,hp,hj,q⟩:=h
 cases ro
 obtain ⟨t,rfl⟩:=ri
 obtain ⟨its,n,r,ho,hz⟩:=I.lst hp
 obtain ⟨h1,h2,h3,h4⟩:=ixN_seq hj
 have hl:=r.length
 have hn:=line63
 have I':Inv X pins σ (upd H p (.lst (xs.set j v))) { s with heap:=s.heap.update p (Obj.mapSeq (·.setIfInBounds j u)) } :=
  I.lstUpd hp ho (mapSeq_set its n j u) (r.set rv j) (by rw [List.length_set]; exact hz) s.toks
 by_cases h0:0 ≤ k
 ·have hk:k.toNat = j:=by
   rw [seqIndex_of h0 h4] at h1
   exact Option.some.inj h1
  exact PySem.W.ki_setAt ho h0 (by omega) (by rw [List.size_toArray,← hl]; exact h4) (by rw [hk]; exact ⟨_,I',q⟩)
 ·have hk:(k + (its.toArray.size:Int)).toNat = j:=by
   rw [seqIndex_neg (by omega) h3] at h1
   rw [List.size_toArray,← hl]
   exact Option.some.inj h1
  exact PySem.W.ki_setBack ho (by omega) (by rw [List.size_toArray,← hl]; exact h3) (by omega) (by rw [hk]; exact ⟨_,I',q⟩)
theorem slice_bounds (lo hi:Option Int) (n:Nat):(sliceBounds lo hi none n).1 = ((HT.sIx n 0 lo:Nat):Int)∧(sliceBounds lo hi none n).2.1 = ((HT.sIx n n hi:Nat):Int)∧(sliceBounds lo hi none n).2.2 = 1:=by
 refine ⟨?_,?_,rfl⟩
 ·cases lo with
  | none => simp [sliceBounds,HT.sIx]
  | some i =>
   simp only [sliceBounds,HT.sIx,Option.getD_none,show (1:Int) > 0 by decide,if_true]
   by_cases h:i < 0
   ·simp only [h,if_true] <;> omega
   ·simp only [h,if_false] <;> omega
 ·cases hi with
  | none => simp [sliceBounds,HT.sIx]
  | some i =>
   simp only [sliceBounds,HT.sIx,Option.getD_none,show (1:Int) > 0 by decide,if_true]
   by_cases h:i < 0
   ·simp only [h,if_true] <;> omega
   ·simp only [h,if_false] <;> omega
theorem slicePick_cut (its:List Value) (lo hi:Option Int):slicePick its.toArray lo hi none = ((its.drop (HT.sIx its.length 0 lo)).take (HT.sIx its.length its.length hi - HT.sIx its.length 0 lo)).toArray:=by
 obtain ⟨h1,h2,h3⟩:=slice_bounds lo hi its.toArray.size
 unfold slicePick
 rw [h1,h2,h3]
 simp only [sliceRange_one,pick_run,List.size_toArray] <;> rfl
noncomputable def rSlL (K:PySem.W.Frag):V→Option Int→Option Int→Hp→VK→Prop:=fun x lo hi H Q => ∃ a xs,x = .ref a∧SqL K H a xs∧∀ p,H p = none→Q (.ref p) (upd H p (.lst (cutV xs lo hi)))
theorem sl_list:SlR X (rSlL X.K):=by
 intro pins s σ H x v vl vu lo hi sl Q I rx hs pl pu h
 obtain ⟨a,xs,rfl,hx,q⟩:=h
 cases rx
 obtain ⟨its,r,ht,hz⟩:=I.list hx
 have hlen:=r.length
 refine ⟨"list",_,slot_list_getitem.lookup,ht.isList.typeIs,?_⟩
 refine wpAny_getItem_list_slice ht.isList hs pl pu .none (by simp) ?_ (by rw [List.size_toArray] <;> omega)
 rw [slicePick_cut,← hlen]
 refine ⟨.ref s.heap.objs.size,_,I.laid (t':=s.toks) (o:=.lst (cutV xs lo hi)) (fun b ob q => Heap.get?_push_of_some _ q) (Nat.le_refl _) ?_,rfl,q _ (I.hok.fresh (Nat.le_refl _))⟩
 exact ⟨Nat.le_trans (cutV_length xs lo hi) hz,_,0,(r.drop (HT.sIx xs.length 0 lo)).take (HT.sIx xs.length xs.length hi - HT.sIx xs.length 0 lo),Heap.get?_push_size _ rfl⟩
theorem call_len_seq:CallR X (.builtin "len") (fun xs H Q => ∃ p ys,xs = [.ref p]∧(SqL X.K H p ys ∨ SqT X.K H p ys)∧Q (.int ys.length) H):=by
 intro pins s σ H xs us Q I r h
 obtain ⟨p,ys,rfl,hq,q⟩:=h
 obtain ⟨u,rfl,rx⟩:=vals1 r
 cases rx
 have hn:=line63
 rcases hq with hq | hq
 ·obtain ⟨its,r',pl,hz⟩:=I.list hq
  have hlen:=r'.length
  exact Calls.call_len_list pl.isList (by simp only [List.size_toArray] <;> omega) ⟨.int ys.length,H,I.tok _,⟨s.toks + 1,by rw [List.size_toArray,hlen]⟩,q⟩
 ·obtain ⟨its,r',pl,hz⟩:=I.tuple hq
  have hlen:=r'.length
  exact len_tuple pl (by simp only [List.size_toArray] <;> omega) ⟨.int ys.length,H,I.tok _,⟨s.toks + 1,by rw [List.size_toArray,hlen]⟩,q⟩
theorem call_list_of:CallR X (.type "list") (fun xs H Q => ∃ p ys,xs = [.ref p]∧(SqL X.K H p ys ∨ SqT X.K H p ys)∧∀ l,H l = none→Q (.ref l) (upd H l (.lst ys))):=by
 intro pins s σ H xs us Q I r h
 obtain ⟨p,ys,rfl,hq,q⟩:=h
 obtain ⟨u,rfl,rx⟩:=vals1 r
 cases rx
 have fin:∀ (its:List Value),Vals ys its→ys.length ≤ sizeLine→∀ (h':Heap) (c':Nat),(∀ b o',s.heap.get? b = some o'→h'.get? b = some o') →
   h'.get? s.heap.objs.size = some { cls:=.type "list",dict:=none,data:=.seq its.toArray c',slots:=#[] }→EP X pins σ Q (.ref s.heap.objs.size) { s with heap:=h' }:=fun its r' hz h' c' kp e =>
  ⟨.ref s.heap.objs.size,_,I.laid (t':=s.toks) kp (Nat.le_refl _) (show ObjOk X.prog X.w _ h' _ (.lst ys) from ⟨hz,its,c',r',e⟩),rfl,q _ (I.hok.fresh (Nat.le_refl _))⟩
 rcases hq with hq | hq
 ·obtain ⟨its,r',pl,hz⟩:=I.list hq
  have hlen:=r'.length
  obtain ⟨o,ho,hc,n,hd⟩:=pl.isList
  exact call_list_seq p (.inl rfl) ho hc hd (fun h' c' kp e => fin its r' hz h' c' kp e) (by simp only [List.size_toArray] <;> omega)
 ·obtain ⟨its,r',pl,hz⟩:=I.tuple hq
  have hlen:=r'.length
  obtain ⟨o,ho,hc,n,hd⟩:=pl
  exact call_list_seq p (.inr rfl) ho hc hd (fun h' c' kp e => fin its r' hz h' c' kp e) (by simp only [List.size_toArray] <;> omega)
theorem call_tuple_of:CallR X (.type "tuple") (fun xs H Q => ∃ p ys,xs = [.ref p]∧((SqL X.K H p ys∧∀ l,H l = none→Q (.ref l) (upd H l (.tup ys))) ∨ (SqT X.K H p ys∧Q (.ref p) H))):=by
 intro pins s σ H xs us Q I r h
 obtain ⟨p,ys,rfl,h⟩:=h
 obtain ⟨u,rfl,rx⟩:=vals1 r
 cases rx
 rcases h with ⟨hq,q⟩ | ⟨hq,q⟩
 ·obtain ⟨its,r',pl,hz⟩:=I.list hq
  have hlen:=r'.length
  refine call_tuple_list pl.isList (fun h' kp => ?_) (by simp only [List.size_toArray] <;> omega)
  have I1:Inv X pins σ H { s with heap:=h' }:=I.kept (t':=s.toks) kp
  have I2:Inv X pins σ (upd H h'.objs.size (.tup ys)) { s with heap:=h'.push { cls:=.type "tuple",data:=.seq its.toArray } } :=
   I1.laid (t':=s.toks) (fun b o e => Heap.get?_push_of_some _ e) (Nat.le_refl _) (show ObjOk X.prog X.w _ _ _ (.tup ys) from ⟨hz,its,r',IsTup.new _ _⟩)
  exact ⟨.ref h'.objs.size,_,I2,rfl,q _ (I1.hok.fresh (Nat.le_refl _))⟩
 ·obtain ⟨its,r',pl,hz⟩:=I.tuple hq
  exact call_tuple_same pl ⟨.ref p,H,I,rfl,q⟩
noncomputable def tyV (K:PySem.W.Frag) (T:String) (x:V) (H:Hp):Prop:=match x with
 | .str _ => T = "str"
 | .int _ => T = "int"
 | .ref p => (T = "list"∧∃ xs,SqL K H p xs) ∨ (T = "tuple"∧∃ o,K.lookup p = some o∧o.cls = .type "tuple"∧o.dict = none) ∨
   (T = "dict"∧((∃ kvs,H p = some (.dK kvs)) ∨ ∃ kvs,H p = some (.dT kvs))) ∨ (T = "set"∧∃ S n,H p = some (.set S n))
 | _ => False
theorem tyV_is {pins:List (Addr × Obj)} {σ:St} {H:Hp} {s:Shared} {T:String} {x:V} {v:Value} (I:Inv X pins σ H s) (r:RelV x v) (ty:tyV X.K T x H) :
  s.TypeIs v T∧∀ a,v = .ref a→∃ ob,s.heap.get? a = some ob∧ob.dict = none:=by
 cases x with
 | str z =>
  obtain ⟨t,rfl⟩:=r
  cases (show T = "str" from ty)
  exact ⟨typeIs_str s z t,fun _ e => nomatch e⟩
 | int i =>
  obtain ⟨t,rfl⟩:=r
  cases (show T = "int" from ty)
  exact ⟨typeIs_int s i t,fun _ e => nomatch e⟩
 | ref p =>
  cases r
  rcases ty with ⟨rfl,xs,hq⟩ | ⟨rfl,o,hk,hc,hd⟩ | ⟨rfl,hk⟩ | ⟨rfl,S,n,hk⟩
  ·obtain ⟨its,_,pl,_⟩:=I.list hq
   refine ⟨pl.isList.typeIs,fun a e => ?_⟩
   cases e
   obtain ⟨o,n,e,c,hd,_⟩:=pl
   exact ⟨o,e,hd⟩
  ·refine ⟨⟨o,I.kIn p o hk,hc⟩,fun a e => ?_⟩
   cases e
   exact ⟨o,I.kIn _ o hk,hd⟩
  ·have z:∃ o,s.heap.get? p = some o∧o.ExactDict:=by
    rcases hk with ⟨kvs,hk⟩ | ⟨kvs,hk⟩
    ·obtain ⟨_,_,_,_,o,_,_,e,ex,_⟩:=I.hok p _ hk
     exact ⟨o,e,ex⟩
    ·obtain ⟨_,_,_,_,o,_,_,e,ex,_⟩:=I.hok p _ hk
     exact ⟨o,e,ex⟩
   obtain ⟨o,e,ex⟩:=z
   refine ⟨⟨o,e,ex.1⟩,fun a e2 => ?_⟩
   cases e2
   exact ⟨o,e,ex.2.1⟩
  ·obtain ⟨o,_,_,_,e,ex,_⟩:=I.hok p _ hk
   refine ⟨⟨o,e,ex.1⟩,fun a e2 => ?_⟩
   cases e2
   exact ⟨o,e,ex.2.1⟩
 | _ => exact False.elim ty
noncomputable def tBM (K:PySem.W.Frag) (T:String) (r:V→List V→Hp→VK→Prop) (to:TE) (t:TA):TE:=fun σ H Q => to σ H fun x H1 => tyV K T x H1∧t σ H1 fun xs H2 => r x xs H2 Q
variable {o e:Expr} {es:List Expr} {to:TE} {t:TA} {name:Str} {apos cpos:Pos} {T id:String} {r:V→List V→Hp→VK→Prop}
theorem pe_bm (pa:PlainAttrs T) (slot:Slot T name id) (hty:typeOf (.builtin id) = pure (.type "method_descriptor")) (hm:MtR X id r) (ho:PE X o to) (ha:PA X (e :: es) t)
  (hbase:attributeBase o name X.env (eval o X.env) = eval o X.env:=by rfl)
  (hfew:((backTo cpos (starEach (e :: es) X.env)).all (fun x => !x.1) && (backToKw cpos (keywordEach [] X.env)).all (fun x => x.1.isSome)
   && decide ((e :: es).length + ([]:List Keyword).length + (if ([]:List Keyword).isEmpty then 0 else 1) < 30)) = true:=by rfl)
  (hline:(apos.endLine == cpos.line) = true:=by rfl) (hs:starEach (e :: es) X.env = (false,eval e X.env) :: starEach es X.env:=by rfl) (hplain:(backTo cpos (starEach es X.env)).any (·.1) = false:=by rfl) :
  PE X (.Call (.Attribute o name apos) (e :: es) [] cpos) (tBM X.K T r to t):=by
 intro pins s σ H Q I h
 refine wpAny_Call_method_late hbase hfew hline rfl (thn (ho pins s σ H _ I h) fun v s1 ⟨x,H1,I1,r1,ty,q1⟩ => ?_)
 obtain ⟨h1,h2⟩:=tyV_is I1 r1 ty
 refine ⟨T,id,pa,slot,hty,h1,h2,?_⟩
 have hA:=ha cpos pins s1 σ H1 _ I1 q1
 rw [hs] at hA ⊢
 refine Calls.callWith_builtin (by show (false || (backTo cpos (starEach es X.env)).any (·.1)) = false; rw [hplain] <;> rfl) (Calls.evalArgs_plain ?_)
 exact thn hA fun us s2 ⟨vs,H2,I2,r2,q2⟩ => hm pins s2 σ H2 x vs v us Q I2 r1 r2 q2
/- xs.append(e),list.index on a module's tuple .. are MtR facts of 06m -/
end
end L2
namespace L2
open PySem PySem.Spec PyProof.Rows
noncomputable def MtM (X:Cx) (id:String) (r:V→List V→Hp→VK→Prop):Prop :=
 ∀ (pins:List (Addr × Obj)) (s:Shared) (σ:St) (H:Hp) (x:V) (xs:List V) (v:Value) (us:List Value) (Q:VK),Inv X pins σ H s→RelV x v→Vals xs us→r x xs H Q →
  wpAny (model X.prog X.w) X.A (call (.builtin id) (v :: us)) (EP X pins σ Q) X.xe s
theorem Vals.one:∀ {x:V} {us:List Value},Vals [x] us→∃ u,us = [u]∧RelV x u
 | _,_,.cons r .nil => ⟨_,rfl,r⟩
theorem Vals.two:∀ {x y:V} {us:List Value},Vals [x,y] us→∃ u v,us = [u,v]∧RelV x u∧RelV y v
 | _,_,_,.cons r (.cons q .nil) => ⟨_,_,rfl,r,q⟩
theorem Vals.rep {xs:List V} {us:List Value} (h:Vals xs us):∀ k:Nat,Vals (List.replicate k xs).flatten (List.replicate k us).flatten
 | 0 => .nil
 | k + 1 => by
  rw [List.replicate_succ,List.replicate_succ,List.flatten_cons,List.flatten_cons]
  exact Vals.append h (Vals.rep h k)
theorem foldl_rep (its:List Value):∀ (k:Nat) (acc:List Value),
  List.foldl (fun x1 x2 => x1 ++ x2) acc.toArray (List.replicate k its.toArray) = (acc ++ (List.replicate k its).flatten).toArray
 | 0,acc => by simp
 | k + 1,acc => by
  have e:acc.toArray ++ its.toArray = (acc ++ its).toArray:=by simp
  have e2:(acc ++ its) ++ (List.replicate k its).flatten = acc ++ (List.replicate (k + 1) its).flatten:=by
   rw [List.replicate_succ,List.flatten_cons,List.append_assoc]
  rw [← e2,← foldl_rep its k (acc ++ its),← e,List.replicate_succ,List.foldl_cons]
section
variable {X:Cx} {pins:List (Addr × Obj)} {σ:St} {H:Hp} {s:Shared} {l b:Addr} {xs ys zs:List V}
theorem Inv.lset {its its':List Value} {n:Nat} {f:Array Value→Array Value} {t':Nat} (I:Inv X pins σ H s) (hH:H l = some (.lst xs))
  (e:s.heap.get? l = some { cls:=.type "list",data:=.seq its.toArray n }) (hf:f its.toArray = its'.toArray) (hv:Vals ys its') (hz:ys.length ≤ sizeLine) :
  Inv X pins σ (upd H l (.lst ys)) { s with heap:=s.heap.update l (Obj.mapSeq f),toks:=t' }:=by
 have q:=PySem.IsL.update e f
 rw [hf] at q
 refine I.write (x:=l) (e:=l) (by rw [hH]; exact trivial) (.inl rfl) (fun b' u hb hu => (Heap.get?_update_other s.heap (Obj.mapSeq f) (Ne.symm hb)).trans hu) ⟨_,q⟩ ?_
 exact ⟨hz,its',_,hv,q⟩
theorem Inv.lnew {its:List Value} {t':Nat} (I:Inv X pins σ H s) (hv:Vals ys its) (hz:ys.length ≤ sizeLine) :
  Inv X pins σ (upd H s.heap.objs.size (.lst ys)) { s with heap:=s.heap.push { cls:=.type "list",data:=.seq its.toArray },toks:=t' } :=
 I.laid (fun _ _ q => Heap.get?_push_of_some _ q) (Nat.le_refl _) ⟨hz,its,0,hv,Heap.get?_push_size _ rfl⟩
theorem Inv.fresh (I:Inv X pins σ H s):H s.heap.objs.size = none:=I.hok.fresh (Nat.le_refl _)
theorem Inv.lstM (I:Inv X pins σ H s) (hH:H l = some (.lst xs)):xs.length ≤ sizeLine∧∃ (its:List Value) (n:Nat),Vals xs its∧xs.length = its.length∧s.heap.get? l = some { cls:=.type "list",data:=.seq its.toArray n }:=by
 obtain ⟨z,its,n,r,e⟩:=I.hok l _ hH
 exact ⟨z,its,n,r,r.length,e⟩
theorem notLongL {n:Nat} (h:n ≤ sizeLine):Builtin.List.listTooLong n = false:=by
 unfold Builtin.List.listTooLong
 exact decide_eq_false (by omega)
end
section
variable {X:Cx}
noncomputable def rAppend:V→List V→Hp→VK→Prop:=fun x vs H Q => ∃ l xs y,x = .ref l∧vs = [y]∧H l = some (.lst xs)∧xs.length < sizeLine∧Q .non (upd H l (.lst (xs ++ [y])))
theorem mt_append:MtM X "list.append" rAppend:=by
 intro pins s σ H x vs v us Q I rx rv h
 obtain ⟨l,xs,y,rfl,rfl,hH,hz,q⟩:=h
 cases rx
 obtain ⟨u,rfl,ru⟩:=rv.one
 obtain ⟨z,its,n,r,hl,e⟩:=I.lstM hH
 refine call_meets F.slot_list_append ⟨_,e,rfl⟩ F.entry_list_append (F.args_list_append_2 _ _) (PySem.list_append l its.toArray n u (by rw [List.size_toArray]; omega)) ⟨e,?_⟩
 refine ⟨.non,_,I.lset (its':=its ++ [u]) hH e (by simp) (r.append (.cons ru .nil)) ?_,rfl,q⟩
 rw [List.length_append,List.length_singleton]
 omega
noncomputable def rExtend:V→List V→Hp→VK→Prop:=fun x vs H Q => ∃ l b xs zs,x = .ref l∧vs = [.ref b]∧H l = some (.lst xs)∧H b = some (.lst zs)∧xs.length + zs.length ≤ sizeLine∧Q .non (upd H l (.lst (xs ++ zs)))
theorem mt_extend:MtM X "list.extend" rExtend:=by
 intro pins s σ H x vs v us Q I rx rv h
 obtain ⟨l,b,xs,zs,rfl,rfl,hH,hB,hz,q⟩:=h
 cases rx
 obtain ⟨u,rfl,ru⟩:=rv.one
 cases ru
 obtain ⟨z,its,n,r,hl,e⟩:=I.lstM hH
 obtain ⟨z2,its2,n2,r2,hl2,e2⟩:=I.lstM hB
 have hsz:its.toArray.size + its2.toArray.size ≤ sizeLine:=by rw [List.size_toArray,List.size_toArray]; omega
 have hlong:¬ (!its.toArray.isEmpty && Builtin.List.listTooLong (its.toArray.size + its2.toArray.size)) = true:=by
  rw [notLongL hsz,Bool.and_false]
  exact Bool.false_ne_true
 refine call_meets F.slot_list_extend ⟨_,e,rfl⟩ F.entry_list_extend (F.args_list_extend_2 _ _)
  (AutoSeq1.list_extend_list_list_0 l its.toArray n b its2.toArray n2 hlong (by rw [List.size_toArray]; omega) (by omega)) ⟨e,e2,?_⟩
 refine ⟨.non,_,I.lset (its':=its ++ its2) hH e (by simp) (r.append r2) ?_,rfl,q⟩
 rw [List.length_append]
 omega
noncomputable def rCat:R2:=fun x y H Q => ∃ l b xs zs,x = .ref l∧y = .ref b∧H l = some (.lst xs)∧H b = some (.lst zs)∧xs.length + zs.length ≤ sizeLine∧∀ p,H p = none→Q (.ref p) (upd H p (.lst (xs ++ zs)))
theorem op_cat:OpR X (binaryOp .Add) rCat:=by
 intro pins s σ H x y v u Q I rx ry h
 obtain ⟨l,b,xs,zs,rfl,rfl,hH,hB,hz,q⟩:=h
 cases rx
 cases ry
 obtain ⟨z,its,n,r,hl,e⟩:=I.lstM hH
 obtain ⟨z2,its2,n2,r2,hl2,e2⟩:=I.lstM hB
 refine PySem.P.add_list e e2 ?_ (by rw [List.size_toArray,List.size_toArray]; omega)
 have ea:its.toArray ++ its2.toArray = (its ++ its2).toArray:=by simp
 rw [ea]
 exact ⟨.ref _,_,I.lnew (t':=s.toks) (r.append r2) (by rw [List.length_append]; omega),rfl,q _ I.fresh⟩
noncomputable def rRep:R2:=fun x y H Q => ∃ l k xs,x = .ref l∧y = .int k∧H l = some (.lst xs)∧-(2 ^ 63) ≤ k∧k < 2 ^ 63∧xs.length * k.toNat ≤ sizeLine ∧
 ∀ p,H p = none→Q (.ref p) (upd H p (.lst (List.replicate k.toNat xs).flatten))
theorem len_rep {α:Type} (xs:List α) (k:Nat):(List.replicate k xs).flatten.length = k * xs.length:=by
 induction k with
 | zero => simp
 | succ k ih => rw [List.replicate_succ,List.flatten_cons,List.length_append,ih,Nat.succ_mul,Nat.add_comm]
theorem op_rep:OpR X (binaryOp .Mult) rRep:=by
 intro pins s σ H x y v u Q I rx ry h
 obtain ⟨l,k,xs,rfl,rfl,hH,h1,h2,hz,q⟩:=h
 cases rx
 obtain ⟨t,rfl⟩:=ry
 obtain ⟨z,its,n,r,hl,e⟩:=I.lstM hH
 have hlen:its.toArray.size * k.toNat ≤ sizeLine:=by rw [List.size_toArray,← hl]; exact hz
 have hcap:¬ its.toArray.size * k.toNat > (2 ^ 63 - 1) / 8:=by
  have:(sizeLine:Nat) ≤ (2 ^ 63 - 1) / 8:=by decide
  omega
 have hfit:¬ (!Builtin.List.listFitsIndex k) = true:=by
  rw [fitsIndex_both h1 h2]
  exact Bool.false_ne_true
 have hlong:¬ Builtin.List.listTooLong (its.toArray.size * k.toNat) = true:=by
  rw [notLongL hlen]
  exact Bool.false_ne_true
 have hnew:List.foldl (fun x1 x2 => x1 ++ x2) #[] (List.replicate (if its.toArray.isEmpty = true then 0 else k.toNat) its.toArray) = (List.replicate k.toNat its).flatten.toArray:=by
  have f0:∀ m:Nat,List.foldl (fun x1 x2 => x1 ++ x2) #[] (List.replicate m its.toArray) = (List.replicate m its).flatten.toArray:=fun m => by
   have:=foldl_rep its m []
   rw [List.nil_append] at this
   exact this
  rw [f0]
  cases its with
  | nil => simp
  | cons a r' => rw [if_neg (by simp)]
 refine wpAny_binaryOp_repeat_ref (T:="list") (U:="int") (by decide) ⟨_,e,rfl⟩ (fun s' => typeIs_int s' k t) noFill_list_mul F.fills_int_mul F.slot_int_rmul repeat_list F.slot_int_index.lookup
  (call_meets F.slot_int_rmul (typeIs_int s k t) F.entry_int_rmul (F.args_int_rmul_2 _ _) (int___rmul___int_list k t l its.toArray n)
   ⟨e,rfl,⟨_,e,rfl⟩,call_meets F.slot_list_mul ⟨_,e,rfl⟩ F.entry_list_mul (F.args_list_mul_2 _ _) (AutoListH.list___mul___list_int_3 l its.toArray n k t hfit hcap hlong) ⟨e,?_⟩⟩)
 rw [hnew]
 exact ⟨.ref _,_,I.lnew (t':=s.toks) (r.rep k.toNat) (by rw [len_rep,Nat.mul_comm]; exact hz),rfl,q _ I.fresh⟩
end
section
variable {prog:Program} {w:World} {A:Around} {E:Value→Shared→Prop} {s:Shared}
set_option maxRecDepth 100000 in
end
section
variable {X:Cx}
end
end L2
namespace Att
open PySem PySem.W PySem.Calls PyProof.Rows
theorem ints_of_wellAll {P:Params} {h:Heap}:∀ (ns:List Int) (vs:List Value),WellAll P h vs (ns.map WData.int)→IntsAre vs ns:=by
 intro ns
 induction ns with
 | nil =>
  intro vs w
  rw [List.map_nil] at w
  cases w
  exact .nil
 | cons n ns ih =>
  intro vs w
  rw [List.map_cons] at w
  cases w with
  | cons a b =>
   cases a
   exact .cons _ _ (ih _ b)
theorem script_of {l:OpenLaw} {n:Nat} (hn:l.most = some n) {P:Params} {h:Heap} {args:List WData} {vals:List Value}
  (hpre:l.row.toRowW.claim.pre args = true) (hwl:WellAll P h vals args) :
  ∃ a vs ns,vals = [Value.ref a]∧args = [WData.list (ns.map WData.int)]∧h.get? a = some { cls:=.type "list",data:=.seq vs.toArray }∧IntsAre vs ns∧ns.length ≤ n:=by
 have hsh:WShape.hasAll [] args [.list .int] = true:=(pre_splitW hpre).1
 have hc:l.pre.holds [] { args:=args } = true:=(pre_splitW hpre).2
 obtain ⟨d,r,rfl,h1,h2⟩:=hasAllW_cons hsh
 obtain rfl:=hasAllW_nil h2
 obtain ⟨xs,rfl,h3⟩:=hasW_list h1
 obtain ⟨ns,rfl⟩:=items_int h3
 have hlen:ns.length ≤ n:=by
  unfold OpenLaw.pre at hc
  have h4:(WTm.not (.lt (.lit (.int (n:Int))) (.len (.arg 0)))).holds [] { args:=[.list (ns.map .int)] } = true:=by
   have h4:=(holds_andW hc).1
   rw [hn] at h4
   exact h4
  have h5:=condW_of h4 (w_not (w_lt w_lit (w_len_list (w_arg rfl))))
  rw [List.length_map] at h5
  refine Nat.le_of_not_lt fun q => ?_
  have q':(n:Int) < ((ns.length:Nat):Int):=by omega
  first
   | (rw [decide_eq_true q'] at h5; exact absurd h5 (by decide))
   | (simp at h5; omega)
 cases hwl with
 | cons w1 w2 =>
  cases w2
  cases w1 with
  | list ho hall => exact ⟨_,_,ns,rfl,rfl,ho,ints_of_wellAll ns _ hall,hlen⟩
theorem post_true (l:OpenLaw) (args:List WData):l.row.toRowW.claim.post args (.bool true) args = true :=
 postW_of (r:=l.row.toRowW) (X:=(true == true))
  (show WShape.has [] (.bool true) .bool = true by first | rfl | decide | simp [WShape.has,WShape.arms,WShape.armsAll])
  (show (WTm.eq .res (.lit (.bool true))).value [] { args:=args,res:=some (.bool true),after:=args } = some (.bool (true == true)) from w_eq_bool (w_res rfl) w_lit) rfl
theorem attach_call {l:OpenLaw} {n:Nat} {q:Program} {loose:List Str} {XP:(Str→Option Value)→Heap→Prop} {YP:World→Heap→Prop} {d:DefRec}
  (hn:l.most = some n) (hdf:d.params.defaults = [])
  (call:∀ (w:World) (s₀ s₁:Shared) (mg mb:Str→Option Value) (fa:Addr) (o:Obj) (pm cd doc:Value) (a:Addr) (vs:List Value) (ns:List Int),
   Ground q loose [] XP w s₀ mg mb s₁.heap→YP w s₁.heap →
   s₁.heap.get? fa = some o→o.data = .func (docDef d.name d.params d.body d.scope pm cd doc)→s₁.heap.CodeRec cd d.name→mg d.name = some (.ref fa) →
   s₁.heap.get? a = some { cls:=.type "list",data:=.seq vs.toArray }→IntsAre vs ns→ns.length ≤ n→s₁.gens = #[] →
   codeAny (model l.prog w) callerA (.call (.ref fa) ⟨[.ref a],[]⟩) (fun r s' => r = .ok (.ret (.bool true))∧OldK s₁.heap s'.heap∧s'.os = s₁.os∧AllBare s'.gens) s₁) :
  WalkO q loose XP YP l.row.toRowW d [] (fun f vs => PySem.call f vs):=by
 intro w s₀ s₁ mg mb G Y fa o pm cd doc dV kV ho hd hcd hD hmg hg args vals as hpre hlay hrd hwl hlo
 obtain rfl:dV = .none:=Dflts.none hD hdf
 obtain rfl:kV = .none:=Dflts.noKw hD
 obtain ⟨a,vs,ns,rfl,rfl,hobj,hints,hlen⟩:=script_of hn hpre hwl
 refine enter_call (codeAny_mono (call w s₀ s₁ mg mb fa o pm cd doc a vs ns G Y ho (fd_plain hd) hcd hmg hobj hints hlen hg) fun r s' hq => ?_)
 obtain ⟨rfl,h2,h3,h4⟩:=hq
 exact ⟨.inl ⟨.bool true,.bool true,[],rfl,fun _ => rfl,.bool true,post_true l _,fun _ => ⟨List.Pairwise.nil,fun _ hm => (nomatch hm)⟩⟩,h2,h3,h4⟩
section
variable {prog:Program} {w:World} {A:Around} {E:Value→Shared→Prop} {s:Shared} {K:Frag}
noncomputable def ledger (h:Heap) (L d:Addr):List (Addr × Obj):=(List.range h.objs.size).filterMap fun a => if a = L ∨ a = d then none else (h.get? a).map fun o => (a,o)
end
end Att
namespace L2
open PySem PySem.Spec PyProof.Rows
theorem vals_ints:∀ {vs:List Value} {ns:List Int},IntsAre vs ns→Vals (ns.map V.int) vs
 | _,_,.nil => .nil
 | _,_,.cons n t h => .cons ⟨t,rfl⟩ (vals_ints h)
noncomputable def Only (H:Hp):Prop:=∀ b,H b = none ∨ ∃ o xs,H b = some (.frz o (.lst xs))
theorem law_call {P:Program} {w:World} {K:PySem.W.Frag} {mg mb:Str→Option Value} {CX:CXT} {k:Nat} {fa a:Addr} {fd:FuncData} {x:Str} {sp:Sp} {s₁:Shared} {vs:List Value} {ns:List Int}
  (KX:K.In s₁.heap) (hns:s₁.heap.Ns mainGlobals mg) (hb:s₁.heap.Ns builtinsNs mb) (hbb:∀ x:Str,x ≠ "__name__"→mb x = bootBuiltins x) (hlim:s₁.heap.NoLimit) (hg:s₁.gens = #[])
  (ha:s₁.heap.get? a = some { cls:=.type "list",data:=.seq vs.toArray }) (hi:IntsAre vs ns) (hl:ns.length ≤ sizeLine) (hr:Room k callerA)
  (F:∀ base:Heap,K.In base→base.Ns mainGlobals mg→FnOk P w K mg base CX k fa fd [x] sp) (hbind:∀ (s:Shared) (u:Value),BindsTo s fd ⟨[u],[]⟩ [(x,u)])
  (hsp:∀ H:Hp,Only H→SqL K H a (ns.map V.int)→sp [.ref a] H (fun v _ => v = .bl true) fun _ _ _ => False)
  (hCX:∀ H e s',CX [] H s₁ (fun _ _ _ => False) e s'→False) :
  codeAny (model P w) callerA (.call (.ref fa) ⟨[.ref a],[]⟩) (fun r s' => r = .ok (.ret (.bool true))∧OldK s₁.heap s'.heap∧s'.os = s₁.os∧AllBare s'.gens) s₁:=by
 have rv:=vals_ints hi
 have lenV:=hi.length
 -- from an abstract heap in which nothing but the script may be tracked
 have core:∀ H:Hp,Only H→SqL K H a (ns.map V.int)→HOk P w H s₁.heap→(∀ b,H b ≠ none→b = a)→(H a ≠ none→K.lookup a = none) →
   codeAny (model P w) callerA (.call (.ref fa) ⟨[.ref a],[]⟩) (fun r s' => r = .ok (.ret (.bool true))∧OldK s₁.heap s'.heap∧s'.os = s₁.os∧AllBare s'.gens) s₁:=by
  intro H hO hS hok hA hK
  have base_of:∀ {b:Addr} {o:Obj},s₁.heap.get? b = some o→H b = none→(hidT s₁.heap H).get? b = some o:=fun e n => hidT_get e n
  have noA:∀ {b:Addr} {o:Obj} {es:Array DictEntry} {ep:Nat},s₁.heap.get? b = some o→o.data = .dict es ep→H b = none:=fun {b o es ep} e d => by
   cases q:H b with
   | none => rfl
   | some u =>
    have e':b = a:=hA b (by rw [q]; simp)
    subst e'
    rw [ha] at e; cases e
    have d':Data.seq vs.toArray _ = Data.dict es ep:=d
    cases d'
  have nsK:∀ {b:Addr} {m:Str→Option Value},s₁.heap.Ns b m→(hidT s₁.heap H).Ns b m:=fun {b m} ⟨o,es,ep,e,d,r⟩ => ⟨o,es,ep,base_of e (noA e d),d,r⟩
  have hKb:K.In (hidT s₁.heap H):=fun b o e => base_of (KX b o e) (by
   cases q:H b with
   | none => rfl
   | some u =>
    have e':b = a:=hA b (by rw [q]; simp)
    subst e'
    rw [hK (by rw [q]; simp)] at e; cases e)
  have hM:Mod K mg (hidT s₁.heap H):=⟨hKb,nsK hns,⟨mb,nsK hb,hbb⟩,let ⟨mc,h1,h2⟩:=hlim; ⟨mc,nsK h1,h2⟩⟩
  have e0:Env0 P w K mg (hidT s₁.heap H) callerA [] s₁ H:=⟨rfl,hM,fun b o e => of_hidT e,Nat.le_of_eq (hidT_size _ _),trivial,fun b hb => absurd (show b ∈ ([]:List Addr) from hb) (by simp),hok,.of_eq hg⟩
  refine codeAny_mono ((F _ hKb (nsK hns)).run callerA [] s₁ H ⟨[.ref a],[]⟩ [.ref a] [.ref a] _ _ hr e0 (hbind s₁ (.ref a)) (.cons rfl .nil) (hsp H hO hS)) fun r s' h => ?_
  cases r with
  | error e => exact (hCX H e s' h).elim
  | ok fl =>
   cases fl with
   | next => exact False.elim h
   | brk => exact False.elim h
   | cont => exact False.elim h
   | ret u =>
    obtain ⟨v,H',os,bare,un,hok',r',q⟩:=h
    have q':v = .bl true:=q
    subst q'
    obtain rfl:u = Value.bool true:=r'
    refine ⟨rfl,OldK.of_keep fun b o e => ?_,os,bare⟩
    cases q:H b with
    | none => exact un.keep b o e q (by intro z; exact absurd (show b ∈ ([]:List Addr) from z) (by simp)) (by simp)
    | some u =>
     rcases hO b with z | ⟨ob,xs,z⟩
     ·rw [q] at z; cases z
     ·have z2:=un.frzs b ob _ z
      obtain ⟨e1,_⟩:=hok b _ z
      obtain ⟨e2,_⟩:=hok' b _ z2
      rw [e] at e1; cases e1
      exact e2
 cases hk:K.lookup a with
 | some o =>
  -- the script is one of the module's own objects
  have e:=KX a o hk
  rw [ha] at e
  cases e
  refine core (fun _ => none) (fun _ => .inl rfl) (.inr ⟨_,vs.toArray,_,hk,rfl,rfl,rfl,by rw [List.size_toArray,lenV]; exact hl,by simpa using rv⟩) (fun b u z => by have z':(none:Option HO) = some u:=z; cases z') (fun b z => absurd rfl z) fun z => absurd rfl z
 | none =>
  refine core (fun b => if b = a then some (.frz { cls:=.type "list",data:=.seq vs.toArray } (.lst (ns.map V.int))) else none) (fun b => ?_) (.inl (.inr ⟨{ cls:=.type "list",data:=.seq vs.toArray },if_pos rfl⟩)) (fun b u z => ?_) (fun b z => ?_) fun _ => hk
  ·by_cases hb:b = a
   ·exact .inr ⟨_,_,if_pos hb⟩
   ·exact .inl (if_neg hb)
  ·by_cases hb:b = a
   ·have z':=(if_pos hb).symm.trans z
    cases z'
    subst hb
    exact ⟨ha,by rw [List.length_map]; exact hl,vs,_,rv,ha⟩
   ·have z':=(if_neg hb).symm.trans z
    cases z'
  ·by_cases hb:b = a
   ·exact hb
   ·exact absurd (if_neg hb) z
end L2
namespace L2
open PySem PySem.Spec PyProof.Rows
theorem walk_of {l:PySem.W.OpenLaw} {n k:Nat} {q:Program} {loose:List Str} {XP:(Str→Option Value)→Heap→Prop} {YP:World→Heap→Prop} {d:DefRec} {K:Params→PySem.W.Frag} {CX:World→CXT} {sp:World→Sp} {x:Str}
  (hn:l.most = some n) (hn2:n ≤ sizeLine) (hdf:d.params.defaults = []) (hr:Room k callerA)
  (hY:∀ (w:World) (h:Heap),YP w h→(K w.params).In h)
  (F:∀ (w:World) (mg:Str→Option Value) (fa:Addr) (h:Heap),(K w.params).In h→h.Ns mainGlobals mg→mg d.name = some (.ref fa) →
   ∃ fd:FuncData,(∀ (s:Shared) (u:Value),BindsTo s fd ⟨[u],[]⟩ [(x,u)]) ∧
    ∀ base:Heap,(K w.params).In base→base.Ns mainGlobals mg→FnOk l.prog w (K w.params) mg base (CX w) k fa fd [x] (sp w))
  (hsp:∀ (w:World) (H:Hp) (a:Addr) (ns:List Int),ns.length ≤ n→Only H→SqL (K w.params) H a (ns.map V.int)→sp w [.ref a] H (fun v _ => v = .bl true) fun _ _ _ => False)
  (hCX:∀ (w:World) (H:Hp) (s:Shared) (e:Value) (s':Shared),CX w [] H s (fun _ _ _ => False) e s'→False) :
  PySem.W.WalkO q loose XP YP l.row.toRowW d [] (fun f vs => PySem.call f vs):=by
 refine Att.attach_call hn hdf fun w s₀ s₁ mg mb fa o pm cd doc a vs ns G Y ho hd hcd hmg hobj hints hlen hg => ?_
 have KX:=hY w _ Y
 obtain ⟨fd,hb,hF⟩:=F w mg fa _ KX G.T.g hmg
 exact law_call KX G.T.g G.T.b G.T.builtins G.T.nolimit hg hobj hints (Nat.le_trans hlen hn2) hr hF hb (fun H hO hS => hsp w H a ns hlen hO hS) fun H e s' => hCX w H s₁ e s'
end L2
namespace L2
open PySem PySem.Spec PyProof.Rows
noncomputable def defArgs (s:Stmt):Arguments:=match s with
 | .FunctionDef _ a _ _ _ _ _ _ _ _ => a
 | _ => { posonlyargs:=[],args:=[],vararg:=none,kwonlyargs:=[],kw_defaults:=[],kwarg:=none,defaults:=[] }
noncomputable def defBody (s:Stmt):List Stmt:=match s with
 | .FunctionDef _ _ b _ _ _ _ _ _ _ => b
 | _ => []
noncomputable def defScope (s:Stmt):Scope:=match s with
 | .FunctionDef _ _ _ _ _ _ sc _ _ _ => sc
 | _ => { kind:=.function,names:=[],isGenerator:=false,isCoroutine:=false }
noncomputable abbrev CX0:CXT:=fun _ _ _ _ _ _ => False
noncomputable abbrev E0:XK:=fun _ _ _ => False
theorem pass0 {X:Cx}:Passes CX0 X E0:=fun _ _ _ _ _ _ _ h => h.elim
structure Fun (K:PySem.W.Frag) (x qual:Str) (st:Stmt) (f:Addr) (fd:FuncData):Prop where
 ex:∃ (oc:Value) (od:Option Addr) (kV doc pm:Value) (an:Option Addr) (cdv ct:Value) (osl:Array (Option Value)),
  fd = PySem.W.fnOf x qual (defArgs st) (defBody st) (defScope st) .none kV doc pm an cdv ct∧K.lookup f = some ⟨oc,od,.func fd,osl⟩∧PySem.W.codeIn K cdv qual = true
 kp:PySem.W.keepIn K (.ref f) = true
section
variable {P:Program} {w:World} {K:PySem.W.Frag} {mg:Str→Option Value} {base:Heap}
theorem Fun.ok {x qual:Str} {st:Stmt} {f:Addr} {fd:FuncData} {N ps:List Str} {k:Nat} {sp:Sp} (F:Fun K x qual st f fd) (S:FnScope N ps (defScope st)) (len:∀ vs H Q E,sp vs H Q E→vs.length = ps.length)
  (hbody:∀ (cdv:Value) (A:Around) (outer:List Env) (s:Shared) (H:Hp) (vs:List V) (Q:VK) (E:XK),Room k (A.deeper (envOfC qual (defScope st) s.heap.objs.size f cdv))→sp vs H Q E →
   ∃ t,PSs (cxOf CX0 P w K mg base N qual (defScope st) f cdv A outer s H E).nox (defBody st) t∧t { nx:=fun _ H' => Q .non H',rt:=Q } (start N vs) H):FnOk P w K mg base CX0 (k + 1) f fd ps sp:=by
 obtain ⟨oc,od,kV,doc,pm,an,cdv,ct,osl,rfl,lk,hcd⟩:=F.ex
 refine fn_of lk hcd S len fun A outer s H vs Q E hr hsp => ?_
 obtain ⟨t,h,q⟩:=hbody cdv A outer s H vs Q E hr hsp
 exact ⟨t,h.nox,q⟩
theorem Fun.binds {x qual:Str} {st:Stmt} {f:Addr} {fd:FuncData} {ps:List Str} (F:Fun K x qual st f fd)
  (h:∀ (kV doc pm:Value) (an:Option Addr) (cdv ct:Value) (us:List Value),us.length = ps.length→bindArgs (PySem.W.fnOf x qual (defArgs st) (defBody st) (defScope st) .none kV doc pm an cdv ct) ⟨us,[]⟩ = pure (ps.zip us)):Binds K fd ps []:=by
 obtain ⟨oc,od,kV,doc,pm,an,cdv,ct,osl,rfl,lk,hcd⟩:=F.ex
 exact .all (h kV doc pm an cdv ct)
theorem fun_mk {x qual:Str} {st:Stmt} {f:Addr} {oc:Value} {od an:Option Addr} {osl:Array (Option Value)} {kV doc pm cdv ct:Value} (l:K.lookup f = some ⟨oc,od,.func (PySem.W.fnOf x qual (defArgs st) (defBody st) (defScope st) .none kV doc pm an cdv ct),osl⟩)
  (c:PySem.W.codeIn K cdv qual = true) (k:PySem.W.keepIn K (.ref f) = true):Fun K x qual st f (PySem.W.fnOf x qual (defArgs st) (defBody st) (defScope st) .none kV doc pm an cdv ct):=⟨⟨oc,od,kV,doc,pm,an,cdv,ct,osl,rfl,l,c⟩,k⟩
end
theorem hu_of {A:Around} {k:Nat} (hr:Room k A):A.units + 1 < cLine:=Nat.lt_of_le_of_lt (Nat.add_le_add_left (by decide:1 ≤ 64) _) hr.units
theorem small1000 {n:Nat} (h:n ≤ 1000):n < sizeLine:=Nat.lt_of_le_of_lt h (by decide)
section
variable {X:Cx}
theorem pv (i:Nat) {x:Str} {pos:Pos} (hN:X.N[i]? = some x:=by rfl) (hv:Vis X.env.scope x:=by first | exact Or.inl rfl | exact Or.inr (Or.inl rfl) | exact Or.inr (Or.inr rfl)) (hd:(x == ("__debug__":Str)) = false:=by decide)
  (hcd:(x == ("__classdict__":Str)) = false:=by decide):PE X (.Name x pos) (tVar i):=pe_var hN hv hd hcd
end
theorem iteF {A B:Prop} (h:B):if false = true then A else B:=by
 rw [if_neg Bool.false_ne_true]
 exact h
theorem iteT {A B:Prop} (h:A):if true = true then A else B:=by
 rw [if_pos rfl]
 exact h
theorem iteNS {c A B:Prop} [Decidable c] (hc:c) (h:B):if (!decide c) = true then A else B:=by
 rw [decide_eq_true hc]
 exact iteF h
noncomputable def Same (H H':Hp):Prop:=∀ b o,H b = some o→H' b = some o
theorem Same.refl (H:Hp):Same H H:=fun _ _ h => h
theorem Same.trans {H H1 H2:Hp} (a:Same H H1) (b:Same H1 H2):Same H H2:=fun c o h => b c o (a c o h)
theorem Same.free {H H':Hp} (e:Same H H') {l:Addr} (h:H' l = Option.none):H l = Option.none:=by
 cases q:H l with
 | none => rfl
 | some o =>
  rw [e l o q] at h
  cases h
theorem Same.seq {K:PySem.W.Frag} {H H':Hp} {a:Addr} {xs:List V} (e:Same H H') (h:SqL K H a xs):SqL K H' a xs:=by
 rcases h with (h | ⟨o,h⟩) | h
 ·exact .inl (.inl (e _ _ h))
 ·exact .inl (.inr ⟨o,e _ _ h⟩)
 ·exact .inr h
end L2
namespace L2
open PySem PySem.Spec PyProof.Rows
section
variable {κ:Type} [DecidableEq κ]
end
section
variable {P:Program} {w:World} {H:Hp} {h:Heap} {a:Addr}
end
section
variable {X:Cx} {pins:List (Addr × Obj)} {σ:St} {H:Hp} {s:Shared} {a:Addr} {y v:V} {u r:Value} {o:Option V} {A:Around} {E:Value→Shared→Prop}
theorem Inv.big (I:Inv X pins σ H s):sysModules < s.heap.objs.size:=by
 have h:mainGlobals < s.heap.objs.size:=(I.mod.glob.keeps I.bk).lt
 exact Nat.lt_trans (by decide) h
end
section
variable {X:Cx} {pins:List (Addr × Obj)} {σ:St} {H:Hp} {s:Shared} {a:Addr} {kvs:List (Key × V)} {k:Key} {u:Value} {A:Around} {E:Value→Shared→Prop}
end
section
variable {X:Cx} {o i e value:Expr} {pos pos' tpos:Pos} {td ty tv:TE}
end
section
variable {X:Cx} {pos:Pos}
end
end L2
set_option maxHeartbeats 4000000
namespace L2
open PySem PySem.Spec PyProof.Rows
structure CompZ where
 cl:List (Str × Addr)
 C:Addr
 s:Shared
 H:Hp
 fp:List Addr
 pn:List (Addr × Obj)
noncomputable def compCx (X:Cx) (N:List Str) (scope:Scope) (Z:CompZ):Cx where
 prog:=X.prog
 w:=X.w
 K:=X.K
 mg:=X.mg
 base:=X.base
 A:=X.A
 N:=N
 s₀:=Z.s
 H₀:=Z.H
 env:=compEnvC scope Z.cl Z.C X.env
 outer:=X.stack
 stack:=X.stack
 ex:=Z.fp
 fn:=fun _ => false
 calm:=X.calm
 pn:=Z.pn
 xe:=fun _ _ => False
noncomputable def CompOk (ns:List (Str × NameKind)) (N:List Str) (scope:Scope) (frees:List (Str × Nat)):Prop :=
 (∀ x ∈ scope.names,x.2 ≠ .cell∧(x.2 = .local→scope.names.lookup x.1 = some .local)∧(x.2 = .free→ns.lookup x.1 = some .cell ∨ ns.lookup x.1 = some .free)) ∧
 ∀ p ∈ frees,N[p.2]? = some p.1∧scope.names.lookup p.1 = some .free∧(ns.lookup p.1 = some .cell ∨ ns.lookup p.1 = some .free)
instance (ns:List (Str × NameKind)) (N:List Str) (scope:Scope) (frees:List (Str × Nat)):Decidable (CompOk ns N scope frees):=by unfold CompOk; infer_instance
noncomputable def σC (n:Nat) (frees:List (Str × Nat)) (σ:St):St:=List.replicate n none ++ frees.map fun p => (σ[p.2]?).join
theorem clos_ok {env:Env} {scope:Scope} (hf:∀ x ∈ scope.names,x.2 = .free→∃ c,env.cells.lookup x.1 = some c) :
  ∃ cl,closureFor scope env = pure cl∧(∀ x c,cl.lookup x = some c→env.cells.lookup x = some c)∧∀ x,(x,NameKind.free) ∈ scope.names→∃ c,cl.lookup x = some c:=by
 have go:∀ (names:List (Str × NameKind)) (cs:List (Str × Addr)),(∀ x ∈ names,x.2 = .free→∃ c,env.cells.lookup x.1 = some c)→(∀ x c,cs.lookup x = some c→env.cells.lookup x = some c) →
   ∃ cl,(forIn names cs (fun (x:Str × NameKind) (r:List (Str × Addr)) => (if (x.2 == NameKind.free) = true then (do let a ← cellOf env x.1; pure (ForInStep.yield ((x.1,a) :: r))) else pure (ForInStep.yield r):Sem (ForInStep (List (Str × Addr)))))) = pure cl ∧
    (∀ x c,cl.lookup x = some c→env.cells.lookup x = some c)∧(∀ x c,cs.lookup x = some c→∃ c',cl.lookup x = some c')∧∀ x,(x,NameKind.free) ∈ names→∃ c,cl.lookup x = some c:=by
  intro names
  induction names with
  | nil => intro cs _ h; exact ⟨cs,rfl,h,fun x c e => ⟨c,e⟩,fun x hx => nomatch hx⟩
  | cons y r ih =>
   intro cs hf h
   obtain ⟨n,k⟩:=y
   have hr:∀ x ∈ r,x.2 = .free→∃ c,env.cells.lookup x.1 = some c:=fun x hx => hf x (List.mem_cons_of_mem _ hx)
   by_cases hk:k = .free
   ·subst hk
    obtain ⟨c,hc⟩:=hf (n,.free) List.mem_cons_self rfl
    have h2:∀ x c',((n,c) :: cs).lookup x = some c'→env.cells.lookup x = some c':=fun x c' e => by
     rw [List.lookup_cons] at e
     cases hx:x == n with
     | true =>
      rw [hx] at e
      have:x = n:=eq_of_beq hx
      cases e
      rw [this]; exact hc
     | false => rw [hx] at e; exact h x c' e
    obtain ⟨cl,e1,e2,e3,e4⟩:=ih ((n,c) :: cs) hr h2
    refine ⟨cl,?_,e2,fun x c' e => ?_,fun x hx => ?_⟩
    ·rw [List.forIn_cons]
     have:cellOf env n = pure c:=by unfold cellOf; rw [hc]
     simp only [beq_self_eq_true,if_true,this,pure_bind]
     exact e1
    ·cases hx:x == n with
     | true => exact e3 x c (by rw [List.lookup_cons,hx])
     | false => exact e3 x c' (by rw [List.lookup_cons,hx]; exact e)
    ·rcases List.mem_cons.mp hx with z | z
     ·cases z
      exact e3 n c (by rw [List.lookup_cons,beq_self_eq_true])
     ·exact e4 x z
   ·obtain ⟨cl,e1,e2,e3,e4⟩:=ih cs hr h
    refine ⟨cl,?_,e2,e3,fun x hx => ?_⟩
    ·rw [List.forIn_cons]
     have hb:(k == NameKind.free) = false:=by simpa using hk
     simp only [hb,Bool.false_eq_true,if_false,pure_bind]
     exact e1
    ·rcases List.mem_cons.mp hx with z | z
     ·cases z; exact absurd rfl hk
     ·exact e4 x z
 obtain ⟨cl,e1,e2,_,e4⟩:=go scope.names [] hf (fun x c e => by simp at e)
 refine ⟨cl,?_,e2,e4⟩
 unfold closureFor
 first
  | (rw [e1]; rfl)
  | (simp only [e1]; rfl)
  | simp [e1]
theorem relabel_free {env:Env}:∀ {names:List (Str × NameKind)} {x:Str},names.lookup x = some .free →
  (names.map fun (n,k) => if (k == NameKind.free && env.scope.kind == .function && env.kindOf n == some .cell) then (n,NameKind.cell) else (n,k)).lookup x = some .cell ∨
  (names.map fun (n,k) => if (k == NameKind.free && env.scope.kind == .function && env.kindOf n == some .cell) then (n,NameKind.cell) else (n,k)).lookup x = some .free
 | [],_,h => by simp at h
 | (n,k) :: r,x,h => by
  have ih:=@relabel_free env r x
  show List.lookup x ((if (k == NameKind.free && env.scope.kind == .function && env.kindOf n == some .cell) = true then (n,NameKind.cell) else (n,k)) :: _) = _ ∨ List.lookup x ((if (k == NameKind.free && env.scope.kind == .function && env.kindOf n == some .cell) = true then (n,NameKind.cell) else (n,k)) :: _) = _
  cases hx:x == n with
  | true =>
   simp only [List.lookup_cons,hx] at h
   cases h
   by_cases hc:(NameKind.free == NameKind.free && env.scope.kind == .function && env.kindOf n == some .cell) = true
   ·rw [if_pos hc]; left; rw [List.lookup_cons,hx]
   ·rw [if_neg hc]; right; rw [List.lookup_cons,hx]
  | false =>
   simp only [List.lookup_cons,hx] at h
   by_cases hc:(k == NameKind.free && env.scope.kind == .function && env.kindOf n == some .cell) = true
   ·rw [if_pos hc]; simp only [List.lookup_cons,hx]; exact ih h
   ·rw [if_neg hc]; simp only [List.lookup_cons,hx]; exact ih h
theorem relabel_back {env:Env}:∀ {names:List (Str × NameKind)} {x:Str},
    ((names.map fun (n,k) => if (k == NameKind.free && env.scope.kind == .function && env.kindOf n == some .cell) then (n,NameKind.cell) else (n,k)).lookup x = some .cell ∨
     (names.map fun (n,k) => if (k == NameKind.free && env.scope.kind == .function && env.kindOf n == some .cell) then (n,NameKind.cell) else (n,k)).lookup x = some .free) →
    (x,NameKind.free) ∈ names ∨ (x,NameKind.cell) ∈ names
  | [],_,h => by simp at h
  | (n,k) :: r,x,h => by
    have ih:=@relabel_back env r x
    replace h:List.lookup x ((if (k == NameKind.free && env.scope.kind == .function && env.kindOf n == some .cell) = true then (n,NameKind.cell) else (n,k)) :: _) = _ ∨ List.lookup x ((if (k == NameKind.free && env.scope.kind == .function && env.kindOf n == some .cell) = true then (n,NameKind.cell) else (n,k)) :: _) = _:=h
    cases hx:x == n with
    | true =>
      have e:x = n:=eq_of_beq hx
      subst e
      by_cases hc:(k == NameKind.free && env.scope.kind == .function && env.kindOf x == some .cell) = true
      · have:k = .free:=by
          simp only [Bool.and_eq_true] at hc
          exact eq_of_beq hc.1.1
        subst this
        exact .inl List.mem_cons_self
      · rw [if_neg hc] at h
        simp only [List.lookup_cons,hx,Option.some.injEq] at h
        rcases h with h | h
        · subst h; exact .inr List.mem_cons_self
        · subst h; exact .inl List.mem_cons_self
    | false =>
      have h':_:=h
      by_cases hc:(k == NameKind.free && env.scope.kind == .function && env.kindOf n == some .cell) = true
      · rw [if_pos hc] at h; simp only [List.lookup_cons,hx] at h
        rcases ih h with z | z
        · exact .inl (List.mem_cons_of_mem _ z)
        · exact .inr (List.mem_cons_of_mem _ z)
      · rw [if_neg hc] at h; simp only [List.lookup_cons,hx] at h
        rcases ih h with z | z
        · exact .inl (List.mem_cons_of_mem _ z)
        · exact .inr (List.mem_cons_of_mem _ z)
section
variable {X:Cx} {pins:List (Addr × Obj)} {σ:St} {H2:Hp} {s2:Shared} {scope:Scope} {loc:List Str} {frees:List (Str × Nat)} {ns:List (Str × NameKind)} {N:List Str} {fp:List Addr} {cl:List (Str × Addr)}
theorem comp_start (I2:Inv X pins σ H2 s2) (hns:X.env.scope.names = ns) (hN:X.N = N) (hk:scope.kind = .function) (ok:CompOk ns N scope frees) (f2:∀ b ∈ fp,FpOk X pins H2 b) (hlive:∀ b ∈ fp,∃ o,s2.heap.get? b = some o)
  (hc1:∀ x c,cl.lookup x = some c→X.env.cells.lookup x = some c) (hc2:∀ x,(x,NameKind.free) ∈ scope.names→∃ c,cl.lookup x = some c)
  {C:Addr} {h4:Heap} {tk:Nat} (hC:C = s2.heap.objs.size + 1) (hnsC:∃ m,h4.Ns C m) (hacc:h4.get? s2.heap.objs.size = some { cls:=.type "list",dict:=none,data:=.seq ([]:List Value).toArray })
  (hkeep:∀ b o,s2.heap.get? b = some o→h4.get? b = some o) :
  Inv (compCx X (loc ++ frees.map (·.1)) scope ⟨cl,C,s2,H2,fp,X.pn ++ pins⟩) [] (σC loc.length frees σ) (upd H2 s2.heap.objs.size (.lst [])) { s2 with heap:=h4,toks:=tk }:=by
 have below:∀ {b:Addr} {o:Obj},s2.heap.get? b = some o→b ≠ C:=fun {b o} e z => by
  have:=Heap.lt_size e
  rw [z,hC] at this
  exact Nat.lt_irrefl _ (Nat.lt_of_succ_lt this)
 have hl:H2 s2.heap.objs.size = none:=I2.hok.fresh (Nat.le_refl _)
 have hCn:H2 C = none:=I2.hok.fresh (by rw [hC]; exact Nat.le_succ _)
 have cne:∀ x c,X.env.cells.lookup x = some c→∃ o v,s2.heap.get? c = some o∧o.data = .cell v:=fun x c e => by
  obtain ⟨v,o,ho,hd⟩:=I2.cell x c e
  exact ⟨o,v,ho,hd⟩
 obtain ⟨mC,hmC⟩:=hnsC
 have hCl:C ≠ s2.heap.objs.size:=by rw [hC]; exact Nat.succ_ne_self _
 refine ⟨⟨I2.ok.mod,hk,I2.ok.glob,I2.ok.blt,?_,fun x y c h1 h2 => I2.ok.inj x y c (hc1 x c h1) (hc1 y c h2),fun x hx => ?_,fun x c h => (Bool.false_ne_true h).elim,I2.ok.hd,I2.ok.frames,.inl rfl,fun b hb => ⟨?_,fun x c e z => ?_⟩,I2.bs,Nat.le_trans I2.ok.bsz I2.sz,fun b o e hb => ?_,fun b hb hfs => ?_,I2.stack,I2.stkFree⟩,
  rfl,I2.bare,?_,⟨mC,hmC,fun i x v h1 h2 h3 => ?_⟩,fun x c e => ?_,?_,fun x c e => ?_,fun p hp => ?_,?_,?_⟩
 ·show s2.heap.objs.size ≤ C
  rw [hC]; exact Nat.le_succ _
 ·-- has
  have hx':(relabel scope X.env).names.lookup x = some .cell ∨ (relabel scope X.env).names.lookup x = some .free:=hx
  rcases relabel_back hx' with z | z
  ·exact hc2 x z
  ·exact absurd rfl (ok.1 _ z).1
 ·obtain ⟨o,ho⟩:=hlive b hb
  exact below ho
 ·exact (f2 b hb).2.2.2.2.1 x c (hc1 x c e) z
 ·rcases (f2 b hb).2.2.2.1 with z | z
  ·exact I2.ok.noex b o e z
  ·exact absurd (Nat.lt_of_lt_of_le (Heap.lt_size (I2.ok.bs b o e).1) z) (Nat.lt_irrefl _)
 ·rcases List.mem_cons.mp (I2.stkSub b hfs) with z | z
  ·exact (f2 b hb).2.1 z
  ·exact (f2 b hb).2.2.1 z
 ·exact Un.laid hkeep (Nat.le_refl _) hl
 ·-- loc
  have hi:¬ i < loc.length:=fun hlt => by
   unfold σC at h2
   rw [List.getElem?_append_left (by simpa using hlt),List.getElem?_replicate] at h2
   simp [hlt] at h2
  have h2':(frees[i - loc.length]?).map (fun p => (σ[p.2]?).join) = some (some v):=by
   unfold σC at h2
   rw [List.getElem?_append_right (by simpa using hi),List.length_replicate,List.getElem?_map] at h2
   exact h2
  have h1':(frees[i - loc.length]?).map (·.1) = some x:=by
   have h1:(loc ++ frees.map (·.1))[i]? = some x:=h1
   rw [List.getElem?_append_right (by omega),List.getElem?_map] at h1
   exact h1
  cases ep:frees[i - loc.length]? with
  | none => rw [ep] at h1'; simp at h1'
  | some p =>
   rw [ep] at h1' h2'
   simp only [Option.map_some,Option.some.injEq] at h1' h2'
   obtain ⟨q1,q2,q3⟩:=ok.2 p (List.mem_of_getElem? ep)
   have hσ:σ[p.2]? = some (some v):=by
    cases e:σ[p.2]? with
    | none => rw [e] at h2'; simp at h2'
    | some o => rw [e] at h2'; simp at h2'; rw [h2']
   have vis:Vis X.env.scope p.1:=by
    show _ ∨ _
    rw [hns]; rcases q3 with z | z
    ·exact .inr (.inl z)
    ·exact .inr (.inr z)
   obtain ⟨m,hn,hlk⟩:=I2.loc
   obtain ⟨u,ru,lk⟩:=hlk p.2 p.1 v (by rw [hN]; exact q1) hσ vis
   refine ⟨u,ru,.inr ?_⟩
   rw [← h1']
   rcases lk with ⟨z,_⟩ | ⟨_,c,ec,hcell⟩
   ·have z':X.env.scope.names.lookup p.1 = some .local:=z
    rw [hns] at z'
    rcases q3 with y | y <;> rw [z'] at y <;> cases y
   ·obtain ⟨c',hc'⟩:=hc2 p.1 (PySem.mem_of_lookup q2)
    have:c' = c:=by have:=hc1 _ _ hc'; rw [ec] at this; exact (Option.some.inj this).symm
    subst this
    refine ⟨relabel_free q2,c',hc',?_⟩
    obtain ⟨o,ho,hd⟩:=hcell
    exact ⟨o,hkeep _ _ ho,hd⟩
 ·obtain ⟨o,v,ho,hd⟩:=cne x c (hc1 x c e)
  exact ⟨v,o,hkeep _ _ ho,hd⟩
 ·show upd H2 _ _ C = none
  rw [upd_ne hCl]; exact hCn
 ·obtain ⟨o,v,ho,hd⟩:=cne x c (hc1 x c e)
  have:c ≠ s2.heap.objs.size:=Nat.ne_of_lt (Heap.lt_size ho)
  rw [upd_ne this]
  exact I2.freeC x c (hc1 x c e)
 ·have hp':p ∈ X.pn ++ pins:=by
   rcases List.mem_append.mp hp with z | z
   ·exact z
   ·exact absurd z (by simp)
  obtain ⟨e,n,ne,nf,d⟩:=I2.pin p hp'
  refine ⟨hkeep _ _ e,?_,below e,fun z => ?_,d⟩
  ·rw [upd_ne (Nat.ne_of_lt (Heap.lt_size e))]; exact n
  ·rcases List.mem_cons.mp (I2.stkSub p.1 z) with y | y
   ·exact ne y
   ·exact nf y
 ·exact I2.hok.laid hkeep (Nat.le_refl _) ⟨by simp,[],_,.nil,hacc⟩
 ·show (σC loc.length frees σ).length = (loc ++ frees.map (·.1)).length
  unfold σC
  simp
theorem comp_back {C:Addr} {H':Hp} {s':Shared} {σ':St} {h':Heap} {pl:List (Addr × Obj)} (I2:Inv X pins σ H2 s2) (f2:∀ b ∈ fp,FpOk X pins H2 b) (hC:C = s2.heap.objs.size + 1)
  (J:Inv (compCx X N scope ⟨cl,C,s2,H2,fp,pl⟩) [] σ' H' s') (hs:Heap.SameBut C s'.heap h'):Inv X pins σ H' { s' with heap:=h' }:=by
 have I3:Inv X pins σ H' s':=I2.call' (ch:=fp) J.os J.base J.hok J.bare fun b hb => ⟨(f2 b hb).2.2.2.1,(f2 b hb).2.1,(f2 b hb).2.2.2.2.1,(f2 b hb).2.2.2.2.2⟩
 refine I3.turned (it:=C) (t':=s'.toks) (fun b o hb e => (hs.2 b hb).trans e) J.free ?_ (.inr ?_) (fun x c e z => ?_) fun p hp z => ?_
 ·intro z
  have:=I2.lt
  rw [← z,hC] at this; exact Nat.lt_irrefl _ (Nat.lt_of_succ_lt this)
 ·rw [hC]; exact Nat.le_trans I2.sz (Nat.le_succ _)
 ·obtain ⟨v,q⟩:=I2.cell x c e
  have:=q.lt
  rw [z,hC] at this; exact Nat.lt_irrefl _ (Nat.lt_of_succ_lt this)
 ·have:=Heap.lt_size (I2.pin p hp).1
  rw [z,hC] at this; exact Nat.lt_irrefl _ (Nat.lt_of_succ_lt this)
end
end L2
namespace L2
open PySem PySem.Spec PyProof.Rows
noncomputable abbrev TC:=St→Hp→(St→Hp→Prop)→Prop
noncomputable def tForJ (J:It) (g:TG) (tb:TS) (D:Ends) (σ:St) (H:Hp):Prop:=∃ W:Nat→Nat→St→Hp→Prop,(∃ m,W 0 m σ H)∧∀ i m σ H,W i m σ H →
 (J.stop i H∧D.nx σ H) ∨ (J.go i H∧∃ N:St→Hp→Prop,(∀ σ' H',N σ' H'→∃ m',m' < m∧W (i + 1) m' σ' H')∧∀ x H',J.yld i H x H'→g x σ H' fun σ2 H2 => tb { D with nx:=N,ct:=N,bk:=D.nx } σ2 H2)
noncomputable def eC (Q:St→Hp→Prop):Ends:={ nx:=Q,rt:=fun _ _ => False }
noncomputable def tBodyC (tt:TT) (tb:TC):TS:=fun D σ H => tt σ H fun b H1 => if b = true then tb σ H1 D.nx else D.nx σ H1
noncomputable def tEmit (l:Addr) (te:TE):TC:=fun σ H Q => te σ H fun v H1 => ∃ xs,H1 l = some (.lst xs)∧xs.length < sizeLine∧Q σ (upd H1 l (.lst (xs ++ [v])))
noncomputable def tNest (wi:TI) (g:TG) (tt:TT) (tb:TC):TC:=fun σ H Q => wi σ H fun J H1 => tForJ J g (tBodyC tt tb) (eC Q) σ H1
noncomputable def tComp1 (wi:TI) (g:CompZ→TG) (tt:CompZ→TT) (te:CompZ→TE) (n:Nat) (frees:List (Str × Nat)):TE:=fun σ H Q => wi σ H fun J H1 => ∀ (Z:CompZ) (l:Addr),H1 l = none →
 tForJ J (g Z) (tBodyC (tt Z) (tEmit l (te Z))) (eC fun _ H' => Q (.ref l) H') (σC n frees σ) (upd H1 l (.lst []))
noncomputable def tComp2 (wi:TI) (g:CompZ→TG) (tt:CompZ→TT) (wi2:CompZ→TI) (g2:CompZ→TG) (tt2:CompZ→TT) (te:CompZ→TE) (n:Nat) (frees:List (Str × Nat)):TE:=fun σ H Q => wi σ H fun J H1 => ∀ (Z:CompZ) (l:Addr),H1 l = none →
 tForJ J (g Z) (tBodyC (tt Z) (tNest (wi2 Z) (g2 Z) (tt2 Z) (tEmit l (te Z)))) (eC fun _ H' => Q (.ref l) H') (σC n frees σ) (upd H1 l (.lst []))
noncomputable def testsOf (ifs:List Expr) (env:Env):Sem Bool:=forIn ifs true fun c r => if r = true then do let ok ← isTrue c env (eval c env); pure (ForInStep.yield ok) else pure (ForInStep.yield r)
noncomputable def PTs (Y:Cx) (ifs:List Expr) (t:TT):Prop:=∀ (pins:List (Addr × Obj)) (s:Shared) (σ:St) (H:Hp) (Q:Bool→Hp→Prop),Inv Y pins σ H s→t σ H Q →
 wpAny (model Y.prog Y.w) Y.A (testsOf ifs Y.env) (TP Y pins σ Q) Y.xe s
noncomputable def tAll:TT:=fun _ H Q => Q true H
theorem pts_nil {Y:Cx}:PTs Y [] tAll:=fun pins s σ H Q I h => wpAny_tests_nil ⟨H,I,h⟩
theorem pts_one {Y:Cx} {c:Expr} {t:TT} (hc:PT Y c t):PTs Y [c] t:=fun pins s σ H Q I h => wpAny_tests_one (hc pins s σ H Q I h)
noncomputable def PB (Y:Cx) (tail:(Unit→Sem Fin)→Sem Fin) (r:TC):Prop:=∀ (pins:List (Addr × Obj)) (s:Shared) (σ:St) (H:Hp) (Q:St→Hp→Prop) (Q':Fin→Shared→Prop) (k:Unit→Sem Fin),Inv Y pins σ H s→r σ H Q →
 (∀ σ' H' s',Inv Y pins σ' H' s'→Q σ' H'→wpAny (model Y.prog Y.w) Y.A (k ()) Q' (fun _ _ => False) s')→wpAny (model Y.prog Y.w) Y.A (tail k) Q' (fun _ _ => False) s
theorem nox_of {α:Type} {M:Model} {A:Around} {t:Sem α} {Q:α→Shared→Prop} {E E':Value→Shared→Prop} {s:Shared} (h:wpAny M A t Q E s) (hx:E = fun _ _ => False):wpAny M A t Q E' s:=by
 subst hx
 exact wpAny_mono h (fun _ _ q => q) fun _ _ z => z.elim
noncomputable def tailEmit (elt:Expr) (acc:Value) (env:Env) (k:Unit→Sem Fin):Sem Fin:=(eval elt env >>= fun x => call (.builtin "list.append") [acc,x] >>= fun _ => pure ()) >>= k
theorem pb_emit {Y:Cx} {elt:Expr} {te:TE} {l:Addr} (hx:Y.xe = fun _ _ => False) (he:PE Y elt te):PB Y (tailEmit elt (.ref l) Y.env) (tEmit l te):=by
 intro pins s σ H Q Q' k I h hk
 refine wpAny_bind (wpAny_bind (thn (nox_of (he pins s σ H _ I h) hx) fun v s1 ⟨x,H1,I1,r1,q1⟩ => ?_))
 obtain ⟨xs,e,hz,q⟩:=q1
 refine wpAny_bind (thn (nox_of (mt_append pins s1 σ H1 (.ref l) [x] (.ref l) [v] (fun _ H2 => Q σ H2) I1 rfl (.cons r1 .nil) ⟨l,xs,x,rfl,rfl,e,hz,q⟩) hx) fun u s2 ⟨y,H2,I2,r2,q2⟩ => ?_)
 exact wpAny_pure (hk σ H2 s2 I2 q2)
noncomputable def turnOf (e:Expr) (d:Nat) (it acc:Value) (env:Env) (tg iter:Expr) (ifs:List Expr) (tail:(Unit→Sem Fin)→Sem Fin):Sem Fin :=
 standAt iter.pos >>= fun _ => pyNext it >>= fun r => match r with
  | none => pure (.done .next)
  | some v => letOwnedTupleGo tg it v >>= fun _ => assign tg env v >>= fun _ => testsOf ifs env >>= fun ok =>
   if ok = true then tail (fun _ => again (.compLoop e d it acc env)) else again (.compLoop e d it acc env)
theorem turn_1 (elt tg iter:Expr) (ifs:List Expr) (scope:Scope) (pos:Pos) (it acc:Value) (env:Env) :
  compTurn (.ListComp elt [⟨tg,iter,ifs,0⟩] scope pos) 0 it acc env = turnOf (.ListComp elt [⟨tg,iter,ifs,0⟩] scope pos) 0 it acc env tg iter ifs (tailEmit elt acc env):=by rfl
theorem turn_2b (elt tg iter:Expr) (ifs:List Expr) (g:Comprehension) (scope:Scope) (pos:Pos) (it acc:Value) (env:Env) :
  compTurn (.ListComp elt [g,⟨tg,iter,ifs,0⟩] scope pos) 1 it acc env = turnOf (.ListComp elt [g,⟨tg,iter,ifs,0⟩] scope pos) 1 it acc env tg iter ifs (tailEmit elt acc env):=by rfl
noncomputable def tailNest (e:Expr) (iter:Expr) (acc:Value) (env:Env) (k:Unit→Sem Fin):Sem Fin :=
 eval iter env >>= fun x => standAt iter.pos >>= fun _ => foldedSetIterable iter env x >>= fun x => holding [x] (pyIter x) >>= fun i => runOwn (.compStart e 1 i acc env) env >>= fun _ => k ()
theorem turn_2a (elt tg iter tg2 iter2:Expr) (ifs ifs2:List Expr) (scope:Scope) (pos:Pos) (it acc:Value) (env:Env) :
  compTurn (.ListComp elt [⟨tg,iter,ifs,0⟩,⟨tg2,iter2,ifs2,0⟩] scope pos) 0 it acc env = turnOf (.ListComp elt [⟨tg,iter,ifs,0⟩,⟨tg2,iter2,ifs2,0⟩] scope pos) 0 it acc env tg iter ifs
   (tailNest (.ListComp elt [⟨tg,iter,ifs,0⟩,⟨tg2,iter2,ifs2,0⟩] scope pos) iter2 acc env):=by rfl
section
variable {Y:Cx}
theorem comp_loop {elt tg iter:Expr} {gens:List Comprehension} {scope:Scope} {pos:Pos} {d:Nat} {ifs:List Expr} {it l:Addr} {tail:(Unit→Sem Fin)→Sem Fin} {fp:List Addr} {tn:Nat→Heap→Prop} {J:It} {g:TG} {tt:TT} {tb:TC} {pins:List (Addr × Obj)} {σ:St} {H:Hp} {s:Shared} {Q:St→Hp→Prop}
  (hx:Y.xe = fun _ _ => False) (hc:Y.calm = true) (heq:compTurn (.ListComp elt gens scope pos) d (.ref it) (.ref l) Y.env = turnOf (.ListComp elt gens scope pos) d (.ref it) (.ref l) Y.env tg iter ifs tail) (hg:PG Y tg g) (ht:PTs Y ifs tt) (hb:PB Y tail tb)
  (I:Inv Y pins σ H s) (T:Turn Y.prog Y.w Y.K tg J fp it tn) (st:tn 0 s.heap) (f2:∀ b ∈ fp,FpOk Y pins H b) (h:tForJ J g (tBodyC tt tb) (eC Q) σ H) :
  codeAny (model Y.prog Y.w) Y.A (.compLoop (.ListComp elt gens scope pos) d (.ref it) (.ref l) Y.env) (fun r s' => r = .ok .next∧∃ σ' H',Inv Y pins σ' H' s'∧Q σ' H') s:=by
 obtain ⟨W,⟨m0,w0⟩,turn⟩:=h
 have stat:∀ {H':Hp},(∀ b ∈ fp,H' b = none)→∀ b ∈ fp,FpOk Y pins H' b:=fun hn b hb => ⟨hn b hb,(f2 b hb).2⟩
 refine codeAny_loop rfl (fun n s' => ∃ i σ' H',Inv Y pins σ' H' s'∧tn i s'.heap∧(∀ b ∈ fp,H' b = none)∧W i n σ' H') (fun n s3 hI => ?_) m0 ⟨0,σ,H,I,st,fun b hb => (f2 b hb).1,w0⟩
 obtain ⟨i,σ3,H3,I3,st3,fr3,w3⟩:=hI
 show wpAny _ Y.A ((compTurn (.ListComp elt gens scope pos) d (.ref it) (.ref l) Y.env).onRaise (fun x => do noteFrame x Y.env; theTreesLotGoes x)) _ _ s3
 refine wpAny_noted ?_
 rw [heq]
 unfold turnOf
 refine wpAny_bind (wpAny_standAt (wpAny_bind ?_))
 rcases turn i n σ3 H3 w3 with ⟨stop,qn⟩ | ⟨go,N,hN,step⟩
 ·refine thn (T.done Y rfl rfl rfl hc i pins s3 σ3 H3 _ I3 (stat fr3) st3 stop) fun r s4 ⟨hr,I4⟩ => ?_
  subst hr
  exact wpAny_pure ⟨rfl,σ3,H3,I4,qn⟩
 ·refine thn (T.item Y rfl rfl rfl hc i pins s3 σ3 H3 _ I3 (stat fr3) st3 go) fun r s4 ⟨u,hr,h4⟩ => ?_
  subst hr
  refine wpAny_bind (thn h4 fun _ s5 ⟨x,H5,I5,r5,y5,st5,fr5⟩ => ?_)
  have I5':=I5.pinned (stat fr5) (T.obj _ _ st5)
  refine wpAny_bind (thn (nox_of (hg _ s5 σ3 H5 x u _ I5' r5 (step x H5 y5)) hx) fun _ s6 ⟨σ6,H6,I6,q6⟩ => ?_)
  refine wpAny_bind (thn (nox_of (ht _ s6 σ6 H6 _ I6 q6) hx) fun ok s7 ⟨H7,I7,q7⟩ => ?_)
  have again:∀ {σ7:St} {H7:Hp} {s7:Shared},Inv Y (pins ++ pinsAt fp s5.heap) σ7 H7 s7→N σ7 H7→∃ m,m < n∧∃ i σ' H',Inv Y pins σ' H' s7∧tn i s7.heap∧(∀ b ∈ fp,H' b = none)∧W i m σ' H':=fun {σ7 H7 s7} I7 n7 => by
   obtain ⟨m',hm,w7⟩:=hN σ7 H7 n7
   refine ⟨m',hm,i + 1,σ7,H7,I7.unpinned,T.keep _ _ _ st5 fun b hb o e => (I7.pin (b,o) (List.mem_append_right _ (List.mem_append_right _ (mem_pinsAt hb e)))).1,fun b hb => ?_,w7⟩
   obtain ⟨o,e,d⟩:=T.obj _ _ st5 b hb
   exact (I7.pin (b,o) (List.mem_append_right _ (List.mem_append_right _ (mem_pinsAt hb e)))).2.1
  cases ok with
  | false =>
   rw [if_neg Bool.false_ne_true] at q7 ⊢
   exact wpAny_pure ⟨rfl,again I7 q7⟩
  | true =>
   rw [if_pos rfl] at q7 ⊢
   exact nox_of (hb _ s7 σ6 H7 _ _ _ I7 q7 fun σ8 H8 s8 I8 q8 => wpAny_pure ⟨rfl,again I8 q8⟩) rfl
theorem start_1 {prog:Program} {w:World} {A:Around} {R:Result→Shared→Prop} {s:Shared} {elt target iter:Expr} {ifs:List Expr} {g:Comprehension} {scope:Scope} {pos:Pos} {it acc:Value} {env:Env}
  (h0:codeAny (model prog w) A (.compLoop (.ListComp elt [g,⟨target,iter,ifs,0⟩] scope pos) 1 it acc env) R s)
  (h:wpAny (model prog w) A (pyIter it) (fun it' s' => codeAny (model prog w) A (.compLoop (.ListComp elt [g,⟨target,iter,ifs,0⟩] scope pos) 1 it' acc env) R s')
   (notedBy (model prog w) A env fun x s' => R (.error x) s') s) :
  codeAny (model prog w) A (.compStart (.ListComp elt [g,⟨target,iter,ifs,0⟩] scope pos) 1 it acc env) R s:=by
 refine codeAny_of_tree ?_
 show wpAny _ _ ((compStart (.ListComp elt [g,⟨target,iter,ifs,0⟩] scope pos) 1 it acc env).onRaise (fun x => do noteFrame x env; standAt theWindowsPlace)) _ _ s
 refine wpAny_notedAt ?_
 unfold compStart
 show wpAny _ _ (ask >>= _) _ _ s
 refine wpAny_bind (wpAny_askSetting (wpAny_ite ?_))
 split
 ·first
   | exact wpAny_bind (wpAny_pure (wpAny_pure (And.intro rfl h0)))
   | exact wpAny_pure (And.intro rfl h0)
 ·first
   | exact wpAny_bind (wpAny_rule (wpAny_bind (wpAny_standAt (wpAny_bind (wpAny_mono h (fun it' s' h' => wpAny_pure (And.intro rfl h')) fun _ _ x => x)))))
   | (refine wpAny_bind (wpAny_rule ?_); show wpAny _ _ (standAt iter.pos >>= _) _ _ s; exact wpAny_bind (wpAny_standAt (wpAny_bind (wpAny_mono h (fun it' s' h' => wpAny_pure (And.intro rfl h')) fun _ _ x => x))))
theorem pb_nest {elt tg iter:Expr} {ifs:List Expr} {g1:Comprehension} {scope:Scope} {pos:Pos} {l:Addr} {wi:TI} {g:TG} {tt:TT} {te:TE} (hx:Y.xe = fun _ _ => False) (hc:Y.calm = true) (hi:PI Y tg iter wi) (hg:PG Y tg g) (ht:PTs Y ifs tt) (he:PE Y elt te)
  (hs:∀ x,foldedSetIterable iter Y.env x = pure x:=by intro _; rfl) :
  PB Y (tailNest (.ListComp elt [g1,⟨tg,iter,ifs,0⟩] scope pos) iter (.ref l) Y.env) (tNest wi g tt (tEmit l te)):=by
 intro pins s σ H Q Q' k I h hk
 unfold tailNest
 refine wpAny_bind (thn (nox_of (hi pins s σ H _ I h) hx) fun v s1 h1 => ?_)
 refine wpAny_bind (wpAny_standAt (wpAny_bind (wpAny_of_eq (hs v) (wpAny_bind (wpAny_holding (thn (nox_of h1 hx) fun itv s2 h2 => ?_))))))
 obtain ⟨it,fp,tn,J,H2,e,I2,T,st2,f2,q2⟩:=h2
 subst e
 have L:codeAny (model Y.prog Y.w) Y.A (.compLoop (.ListComp elt [g1,⟨tg,iter,ifs,0⟩] scope pos) 1 (.ref it) (.ref l) Y.env) (fun r s' => r = .ok .next∧∃ σ' H',Inv Y pins σ' H' s'∧Q σ' H') s2 :=
  comp_loop hx hc (turn_2b ..) hg ht (pb_emit hx he) I2 T st2 f2 q2
 refine wpAny_bind (wpAny_runOwn (codeAny_mono (start_1 L (T.self _ _ _ _ _ st2 L)) fun r s3 h3 => ?_))
 obtain ⟨rfl,σ3,H3,I3,q3⟩:=h3
 exact hk σ3 H3 s3 I3 q3
end
section
variable {X:Cx} {scope:Scope} {loc:List Str} {frees:List (Str × Nat)} {ns:List (Str × NameKind)} {N:List Str} {pos:Pos}
theorem comp_core {e:Expr} {gs:List Comprehension} {g0:Comprehension} {wi:TI} {tg iter:Expr} {R:CompZ→Addr→It→St→Hp→(Hp→Prop)→Prop} {use:Option (Value→Sem Unit)} {Q:Value→Shared→Prop} {newPos:Pos}
  (hcl:clausesOf e = g0 :: gs) (hg0:g0.iter = iter) (hi:PI X tg iter wi) (hns:X.env.scope.names = ns) (hN:X.N = N) (hk:scope.kind = .function) (ok:CompOk ns N scope frees)
  (hs:∀ x,foldedSetIterable iter X.env x = pure x) {pins:List (Addr × Obj)} {s:Shared} {σ:St} {H:Hp} {QH:Addr→Hp→Prop} (I:Inv X pins σ H s)
  (h:wi σ H fun J H1 => ∀ (Z:CompZ) (l:Addr),H1 l = none→R Z l J (σC loc.length frees σ) (upd H1 l (.lst [])) (QH l))
  (block:∀ (Z:CompZ) (l it:Addr) (fp:List Addr) (tn:Nat→Heap→Prop) (J:It) (H4:Hp) (s4:Shared) (σ4:St),Z.fp = fp→Inv (compCx X (loc ++ frees.map (·.1)) scope Z) [] σ4 H4 s4→Turn X.prog X.w X.K tg J fp it tn→tn 0 s4.heap →
   (∀ b ∈ fp,FpOk (compCx X (loc ++ frees.map (·.1)) scope Z) [] H4 b)→R Z l J σ4 H4 (QH l) →
   codeAny (model X.prog X.w) X.A (.compStart e 0 (.ref it) (.ref l) (compEnvC scope Z.cl Z.C X.env)) (fun r s' => r = .ok .next∧∃ σ' H',Inv (compCx X (loc ++ frees.map (·.1)) scope Z) [] σ' H' s'∧QH l H') s4)
  (fin:∀ (l C:Addr) (H':Hp) (s':Shared),(∃ m,s'.heap.Ns C m)→Inv X pins σ H' s'→H' C = none→X.s₀.heap.objs.size ≤ C→C ≠ X.env.locals→(∀ x c,X.env.cells.lookup x = some c→c ≠ C)→(∀ h',Heap.SameBut C s'.heap h'→Inv X pins σ H' { s' with heap:=h' })→(∀ p ∈ X.pn ++ pins,p.1 ≠ C)→QH l H' →
   compPost (model X.prog X.w) X.A X.xe use Q (.ref l) C (.ok .next) s') :
  wpAny (model X.prog X.w) X.A (comprehension e scope X.env newPos (newList []) false (eval iter X.env) use) Q X.xe s:=by
 obtain ⟨cl,hclos,hc1,hc2⟩:=clos_ok (env:=X.env) (scope:=scope) fun x hx hf => by
  refine I.ok.has x.1 ?_
  have:=(ok.1 x hx).2.2 hf
  rw [← hns] at this
  exact this
 have hs':∀ x,foldedSetIterable g0.iter X.env x = pure x:=by rw [hg0]; exact hs
 refine wpAny_comprehension_free hcl hs' hclos hk (fun x hx hl => (ok.1 x hx).2.1 hl) (thn (hi pins s σ H _ I h) fun v s1 h1 => thn h1 fun itv s2 h2 => ?_)
 obtain ⟨it,fp,tn,J,H2,e2,I2,T,st2,f2,q2⟩:=h2
 subst e2
 refine wpAny_newObj_type (wpAny_newFunctionEnv (fun x hx => (ok.1 x hx).1) (by intro y hy; simp at hy) (fun h₁ hns₁ hsb₁ => ?_) hk)
 dsimp only at hns₁ hsb₁ ⊢
 have hsz:(s2.heap.push { cls:=.type "list",dict:=none,data:=.seq ([]:List Value).toArray }).objs.size = s2.heap.objs.size + 1:=Heap.size_push ..
 generalize hCeq:(s2.heap.push { cls:=.type "list",dict:=none,data:=.seq ([]:List Value).toArray }).objs.size = C at hns₁ hsb₁ hsz ⊢
 have keep:∀ b o,s2.heap.get? b = some o→h₁.get? b = some o:=fun b o e => hsb₁.extBut b o (by rw [hsz]; exact Nat.ne_of_lt (Nat.lt_succ_of_lt (Heap.lt_size e))) (Heap.get?_push_of_some _ (Heap.get?_push_of_some _ e))
 have hacc:h₁.get? s2.heap.objs.size = some { cls:=.type "list",dict:=none,data:=.seq ([]:List Value).toArray } :=
  hsb₁.extBut _ _ (by rw [hsz]; exact Nat.ne_of_lt (Nat.lt_succ_self _)) (Heap.get?_push_of_some _ (Heap.get?_push_size _ rfl))
 have live:∀ b ∈ fp,∃ o,s2.heap.get? b = some o:=fun b hb => let ⟨o,ho,_⟩:=T.obj _ _ st2 b hb; ⟨o,ho⟩
 have J0:=comp_start (scope:=scope) (loc:=loc) (frees:=frees) (tk:=s2.toks + ([]:List (Str × Value)).length) I2 hns hN hk ok f2 live hc1 hc2 hsz ⟨_,hns₁⟩ hacc keep
 have hln:H2 s2.heap.objs.size = none:=I2.hok.fresh (Nat.le_refl _)
 have B:=block ⟨cl,C,s2,H2,fp,X.pn ++ pins⟩ s2.heap.objs.size it fp tn J _ _ _ rfl J0 T (T.keep _ _ _ st2 fun b _ o e => keep b o e) (fun b hb => by
  obtain ⟨o,ho⟩:=live b hb
  obtain ⟨z0,z1,z2,z3,z4,z5⟩:=f2 b hb
  refine ⟨?_,?_,fun z => ?_,.inl hb,fun x c e => z4 x c (hc1 x c e),fun p hp => z5 p ?_⟩
  ·rw [upd_ne (Nat.ne_of_lt (Heap.lt_size ho))]; exact z0
  ·show b ≠ C
   rw [hsz]; exact Nat.ne_of_lt (Nat.lt_succ_of_lt (Heap.lt_size ho))
  ·rcases List.mem_cons.mp (I2.stkSub b z) with y | y
   ·exact z1 y
   ·exact z2 y
  ·rcases List.mem_append.mp hp with y | y
   ·exact y
   ·exact absurd y (by simp)) (q2 _ _ hln)
 refine codeAny_mono B fun r s' hr => ?_
 obtain ⟨rfl,σ',H',J',q'⟩:=hr
 obtain ⟨m',hm',_⟩:=J'.loc
 have hCl:C ≠ X.env.locals:=fun z => by
  have:=I2.lt
  rw [← z,hsz] at this; exact Nat.lt_irrefl _ (Nat.lt_of_succ_lt this)
 have hCc:∀ x c,X.env.cells.lookup x = some c→c ≠ C:=fun x c e z => by
  obtain ⟨v,q⟩:=I2.cell x c e
  have:=q.lt
  rw [z,hsz] at this; exact Nat.lt_irrefl _ (Nat.lt_of_succ_lt this)
 have hCp:∀ p ∈ X.pn ++ pins,p.1 ≠ C:=fun p hp z => by
  have:=Heap.lt_size (I2.pin p hp).1
  rw [z,hsz] at this; exact Nat.lt_irrefl _ (Nat.lt_of_succ_lt this)
 exact fin s2.heap.objs.size C H' s' ⟨m',hm'⟩ (by have:=comp_back I2 f2 hsz J' (Heap.SameBut.refl C s'.heap); exact this) J'.free (by rw [hsz]; exact Nat.le_trans I2.sz (Nat.le_succ _)) hCl hCc (fun h' hs => comp_back I2 f2 hsz J' hs) hCp q'
theorem pe_comp1 {elt tg iter:Expr} {ifs:List Expr} {wi:TI} {g:CompZ→TG} {tt:CompZ→TT} {te:CompZ→TE} (ns:List (Str × NameKind)) (N:List Str) (loc:List Str) (frees:List (Str × Nat)) (hc:X.calm = true) (hi:PI X tg iter wi)
  (hns:X.env.scope.names = ns) (hN:X.N = N) (hk:scope.kind = .function) (ok:CompOk ns N scope frees)
  (hg:∀ Z,PG (compCx X (loc ++ frees.map (·.1)) scope Z) tg (g Z)) (ht:∀ Z,PTs (compCx X (loc ++ frees.map (·.1)) scope Z) ifs (tt Z)) (he:∀ Z,PE (compCx X (loc ++ frees.map (·.1)) scope Z) elt (te Z))
  (hs:∀ x,foldedSetIterable iter X.env x = pure x:=by intro _; rfl):PE X (.ListComp elt [⟨tg,iter,ifs,0⟩] scope pos) (tComp1 wi g tt te loc.length frees):=by
 intro pins s σ H Q I h
 rw [eval_ListComp]
 refine comp_core (e:=.ListComp elt [⟨tg,iter,ifs,0⟩] scope pos) (g0:=⟨tg,iter,ifs,0⟩) (gs:=[]) (tg:=tg) (iter:=iter) (loc:=loc) (R:=fun Z l J σ H QH => tForJ J (g Z) (tBodyC (tt Z) (tEmit l (te Z))) (eC fun _ H' => QH H') σ H) (use:=none) (QH:=fun l H' => Q (.ref l) H') rfl rfl hi hns hN hk ok hs I h ?_ ?_
 ·intro Z l it fp tn J H4 s4 σ4 hfp I4 T st4 f4 q4
  have L:=comp_loop (Y:=compCx X (loc ++ frees.map (·.1)) scope Z) rfl hc (turn_1 elt tg iter ifs scope pos (.ref it) (.ref l) _) (hg Z) (ht Z) (pb_emit rfl (he Z)) I4 T st4 f4 q4
  refine codeAny_mono (codeAny_compStart_list L (T.self _ _ _ _ _ st4 L)) fun r s' hr => ?_
  exact hr
 ·intro l C H' s' hm J' hn h1 h2 h3 h4 _ q'
  obtain ⟨m,hm⟩:=hm
  exact ⟨m,hm,fun h' hs' => ⟨.ref l,H',h4 h' hs',rfl,q'⟩⟩
theorem pe_comp2 {elt tg iter tg2 iter2:Expr} {ifs ifs2:List Expr} {wi:TI} {g g2:CompZ→TG} {tt tt2:CompZ→TT} {wi2:CompZ→TI} {te:CompZ→TE} (ns:List (Str × NameKind)) (N:List Str) (loc:List Str) (frees:List (Str × Nat)) (hc:X.calm = true) (hi:PI X tg iter wi)
  (hns:X.env.scope.names = ns) (hN:X.N = N) (hk:scope.kind = .function) (ok:CompOk ns N scope frees)
  (hg:∀ Z,PG (compCx X (loc ++ frees.map (·.1)) scope Z) tg (g Z)) (ht:∀ Z,PTs (compCx X (loc ++ frees.map (·.1)) scope Z) ifs (tt Z))
  (hi2:∀ Z,PI (compCx X (loc ++ frees.map (·.1)) scope Z) tg2 iter2 (wi2 Z)) (hg2:∀ Z,PG (compCx X (loc ++ frees.map (·.1)) scope Z) tg2 (g2 Z)) (ht2:∀ Z,PTs (compCx X (loc ++ frees.map (·.1)) scope Z) ifs2 (tt2 Z))
  (he:∀ Z,PE (compCx X (loc ++ frees.map (·.1)) scope Z) elt (te Z))
  (hs:∀ x,foldedSetIterable iter X.env x = pure x:=by intro _; rfl) (hs2:∀ (Z:CompZ) x,foldedSetIterable iter2 (compCx X (loc ++ frees.map (·.1)) scope Z).env x = pure x:=by intro _ _; rfl) :
  PE X (.ListComp elt [⟨tg,iter,ifs,0⟩,⟨tg2,iter2,ifs2,0⟩] scope pos) (tComp2 wi g tt wi2 g2 tt2 te loc.length frees):=by
 intro pins s σ H Q I h
 rw [eval_ListComp]
 refine comp_core (e:=.ListComp elt [⟨tg,iter,ifs,0⟩,⟨tg2,iter2,ifs2,0⟩] scope pos) (g0:=⟨tg,iter,ifs,0⟩) (gs:=[⟨tg2,iter2,ifs2,0⟩]) (tg:=tg) (iter:=iter) (loc:=loc) (R:=fun Z l J σ H QH => tForJ J (g Z) (tBodyC (tt Z) (tNest (wi2 Z) (g2 Z) (tt2 Z) (tEmit l (te Z)))) (eC fun _ H' => QH H') σ H) (use:=none) (QH:=fun l H' => Q (.ref l) H') rfl rfl hi hns hN hk ok hs I h ?_ ?_
 ·intro Z l it fp tn J H4 s4 σ4 hfp I4 T st4 f4 q4
  have L:=comp_loop (Y:=compCx X (loc ++ frees.map (·.1)) scope Z) rfl hc (turn_2a elt tg iter tg2 iter2 ifs ifs2 scope pos (.ref it) (.ref l) _) (hg Z) (ht Z) (pb_nest rfl hc (hi2 Z) (hg2 Z) (ht2 Z) (he Z) (hs2 Z)) I4 T st4 f4 q4
  refine codeAny_mono (codeAny_compStart_list L (T.self _ _ _ _ _ st4 L)) fun r s' hr => ?_
  exact hr
 ·intro l C H' s' hm J' hn h1 h2 h3 h4 _ q'
  obtain ⟨m,hm⟩:=hm
  exact ⟨m,hm,fun h' hs' => ⟨.ref l,H',h4 h' hs',rfl,q'⟩⟩
theorem ps_setC1 {i:Nat} {x:Str} {pos' apos:Pos} {elt tg iter:Expr} {ifs:List Expr} {wi:TI} {g:CompZ→TG} {tt:CompZ→TT} {te:CompZ→TE} (ns:List (Str × NameKind)) (N:List Str) (loc:List Str) (frees:List (Str × Nat)) (hc:X.calm = true) (hND:X.N.Nodup) (hix:X.N[i]? = some x) (hxl:X.env.scope.names.lookup x = some .local) (hi:PI X tg iter wi)
  (hns:X.env.scope.names = ns) (hN:X.N = N) (hk:scope.kind = .function) (ok:CompOk ns N scope frees)
  (hg:∀ Z,PG (compCx X (loc ++ frees.map (·.1)) scope Z) tg (g Z)) (ht:∀ Z,PTs (compCx X (loc ++ frees.map (·.1)) scope Z) ifs (tt Z)) (he:∀ Z,PE (compCx X (loc ++ frees.map (·.1)) scope Z) elt (te Z))
  (hsw:swapsWith (.ListComp elt [⟨tg,iter,ifs,0⟩] scope pos) (some (.Name x pos')) apos.line X.env = pure true:=by rfl)
  (hs:∀ x,foldedSetIterable iter X.env x = pure x:=by intro _; rfl):PS X (.Assign [.Name x pos'] (.ListComp elt [⟨tg,iter,ifs,0⟩] scope pos) apos) (tAsg (tComp1 wi g tt te loc.length frees) (gName i)):=by
 intro pins s σ H D I h
 rw [exec_Assign_Name_used _ _ _ _ hsw]
 refine wpAny_bind (wpAny_standAt (wpAny_bind ?_))
 show wpAny _ X.A (do let _ ← comprehension (.ListComp elt [⟨tg,iter,ifs,0⟩] scope pos) scope X.env _ (newList []) false (eval iter X.env) (some (assign (.Name x pos') X.env))) _ _ s
 refine wpAny_bind ?_
 have key:=comp_core (X:=X) (e:=.ListComp elt [⟨tg,iter,ifs,0⟩] scope pos) (g0:=⟨tg,iter,ifs,0⟩) (gs:=[]) (tg:=tg) (iter:=iter) (newPos:=firstIterPos [⟨tg,iter,ifs,0⟩] pos) (loc:=loc) (R:=fun Z l J σ H QH => tForJ J (g Z) (tBodyC (tt Z) (tEmit l (te Z))) (eC fun _ H' => QH H') σ H) (use:=some (assign (.Name x pos') X.env)) (QH:=fun l H' => D.nx (σ.set i (some (.ref l))) H') (Q:=fun _ s' => SP X pins D .next s') rfl rfl hi hns hN hk ok hs I h ?_ ?_
 ·exact thn key fun _ s' hq => wpAny_pure (wpAny_pure hq)
 ·intro Z l it fp tn J H4 s4 σ4 hfp I4 T st4 f4 q4
  have L:=comp_loop (Y:=compCx X (loc ++ frees.map (·.1)) scope Z) rfl hc (turn_1 elt tg iter ifs scope pos (.ref it) (.ref l) _) (hg Z) (ht Z) (pb_emit rfl (he Z)) I4 T st4 f4 q4
  refine codeAny_mono (codeAny_compStart_list L (T.self _ _ _ _ _ st4 L)) fun r s' hr => ?_
  exact hr
 ·intro l C H' s' hm J' hn h1 h2 h3 h4 h5 q'
  obtain ⟨m,hm⟩:=hm
  show wpAny _ X.A (assign (.Name x pos') X.env (.ref l)) _ _ _
  refine wpAny_assign_Name (store_ok2 J' hND hix (.inl hxl) (v:=.ref l) rfl (fun s'' I'' hsb => ?_) (.inr hxl))
  obtain ⟨a,hsb,ha⟩:=hsb
  have haC:C ≠ a:=by
   rcases ha with z | z
   ·rw [z]; exact h2
   ·exact fun y => h3 x a z y.symm
  refine ⟨m,hm.sameBut hsb haC,fun h' hs' => ⟨_,H',?_,q'⟩⟩
  exact I''.turned (it:=C) (t':=s''.toks) (fun b o hb e => (hs'.2 b hb).trans e) hn h2 (.inr h1) h3 h5
end
end L2
namespace PySem
open Sem (wp)
open AutoSeq1 (wpAny_loadPart')
section
variable {prog:Program} {w:World} {A:Around} {E:Value→Shared→Prop} {s:Shared}
theorem nextOf_tuple_item {it l:Addr} {i:Nat} {items} {x:Value} {Q:Value→Shared→Prop} (hit:s.heap.IsTupleIter it l i)
  (hl:s.heap.IsTuple l items) (hx:items[i]? = some x)
  (hQ:∀ h',h'.IsTupleIter it l (i + 1)→Heap.SameBut it s.heap h'→Q x { s with heap:=h' }) :
  wpAny (model prog w) A (Builtin.SmallTypes.nextOf (.ref it)) Q E s:=by
 obtain ⟨o,ho,hc,hd⟩:=id hit
 obtain ⟨ol,hol,_,nl,hdl⟩:=hl
 unfold Builtin.SmallTypes.nextOf
 refine wpAny_bind (wpAny_callSpecial?_slot (name:=Str.ofString "__next__") hit.typeIs F.slot_tuple_iterator_next
  (wpAny_call_entry F.slot_tuple_iterator_next hit.typeIs F.entry_tuple_iterator_next ?_ (F.args_tuple_iterator_next_1 _)))
 show wpAny _ _ (field (.ref it) 0 >>= _) _ _ s
 refine wpAny_bind (wpAny_field ho hd (x:=.ref l) rfl ?_)
 show wpAny _ _ (if (Value.ref l == Value.none) = true then _ else _) _ _ s
 rw [if_neg (show ¬ ((Value.ref l == Value.none) = true) from Bool.false_ne_true)]
 show wpAny _ _ (field (.ref it) 1 >>= _) _ _ s
 refine wpAny_bind (wpAny_field ho hd (x:=.int i 0) rfl ?_)
 show wpAny _ _ (seqItems? (.ref l) >>= _) _ _ s
 refine wpAny_bind (wpAny_seqItems hol hdl ?_)
 simp only [Int.toNat_natCast,hx]
 refine wpAny_bind (wpAny_setField ho hd (by simp) (wpAny_pure ⟨x,rfl,wpAny_pure (hQ _ ?_ (Heap.SameBut.update ..))⟩))
 exact ⟨_,Heap.get?_update_self _ ho (Obj.isFreed_of_fields (Obj.data_mapFields hd _)),(Obj.cls_mapFields ..).trans hc,by
  rw [Obj.data_mapFields hd]; simp [rawInt]⟩
theorem nextOf_tuple_end {it l:Addr} {i:Nat} {items} {Q:Value→Shared→Prop} (hh:A.handled = none)
  (hit:s.heap.IsTupleIter it l i) (hl:s.heap.IsTuple l items) (hx:items[i]? = none)
  (hE:∀ h' e,Heap.ExtBut it s.heap h'→(∃ o,h'.get? e = some o∧o.cls = .type "StopIteration")→E (.ref e) { s with heap:=h' }) :
  wpAny (model prog w) A (Builtin.SmallTypes.nextOf (.ref it)) Q E s:=by
 obtain ⟨o,ho,hc,hd⟩:=id hit
 obtain ⟨ol,hol,_,nl,hdl⟩:=hl
 unfold Builtin.SmallTypes.nextOf
 refine wpAny_bind (wpAny_callSpecial?_slot (name:=Str.ofString "__next__") hit.typeIs F.slot_tuple_iterator_next
  (wpAny_call_entry F.slot_tuple_iterator_next hit.typeIs F.entry_tuple_iterator_next ?_ (F.args_tuple_iterator_next_1 _)))
 show wpAny _ _ (field (.ref it) 0 >>= _) _ _ s
 refine wpAny_bind (wpAny_field ho hd (x:=.ref l) rfl ?_)
 show wpAny _ _ (if (Value.ref l == Value.none) = true then _ else _) _ _ s
 rw [if_neg (show ¬ ((Value.ref l == Value.none) = true) from Bool.false_ne_true)]
 show wpAny _ _ (field (.ref it) 1 >>= _) _ _ s
 refine wpAny_bind (wpAny_field ho hd (x:=.int i 0) rfl ?_)
 show wpAny _ _ (seqItems? (.ref l) >>= _) _ _ s
 refine wpAny_bind (wpAny_seqItems hol hdl ?_)
 simp only [Int.toNat_natCast,hx]
 refine wpAny_bind (wpAny_rule (wpAny_bind (wpAny_setField ho hd (by simp) ?_)))
 show wpAny _ _ (newExc (.type "StopIteration") [] >>= _) _ _ _
 refine wpAny_bind ?_
 simp only [newExc,newTuple]
 refine wpAny_bind (wpAny_newObj_type ?_ (by size_fits))
 refine wpAny_bind (m:=firstArgMember _ _) (wpAny_of_eq (a:=Value.none) (by first | rfl | (simp only [firstArgMember]; rfl)) ?_)
 refine wpAny_newObj_type ?_ (by size_fits)
 simp only [raiseNew]
 refine wpAny_bind (wpAny_handled ?_)
 first | rw [show A.in1.handled = none from hh] | rw [hh]
 refine wpAny_bind (wpAny_pure (wpAny_throw ?_))
 exact hE _ _ (((Heap.SameBut.update ..).extBut.push _).push _) ⟨_,Heap.get?_push_size _ rfl,rfl⟩
end
theorem Draws.tuple {prog:Program} {w:World} {A:Around} (hh:A.handled = none) (it l:Addr) (hne:l ≠ it) (items:Array Value) :
  Draws prog w A it [it,l] items.size (fun i v => items[i]? = some v) (fun i h => h.IsTupleIter it l i∧h.IsTuple l items) where
 live:=fun _ _ st => let ⟨o,ho,_⟩:=st.1; ⟨o,ho⟩
 frame:=fun _ _ _ st hk => ⟨st.1.at fun o e => hk it (by simp) o e,let ⟨o,ho,r⟩:=st.2; ⟨o,hk l (by simp) o ho,r⟩⟩
 item:=fun i s Q E hi st hQ => by
  refine nextOf_tuple_item st.1 st.2 (x:=items[i]) (by simp [hi]) fun h' hit' hs' => ?_
  exact hQ _ h' s.toks (by simp [hi]) ⟨hit',let ⟨o,ho,r⟩:=st.2; ⟨o,(hs'.2 l hne).trans ho,r⟩⟩ hs'
 done:=fun s Q E st hE => nextOf_tuple_end hh st.1 st.2 (by simp) hE
theorem meets_enumerate_newT (l:Addr) (items:Array Value) (n:Nat) (dct:Option Addr) (sl:Array (Option Value)) :
  Meets (Builtin.«enumerate.__new__» ⟨[.type "enumerate",.ref l],[]⟩) (fun _ R s => s.heap.get? l = some { cls:=.type "tuple",dict:=dct,data:=.seq items n,slots:=sl } ∧
   R (.ok (.ret (.ref (s.heap.push { cls:=.type "tuple_iterator",data:=.fields #[.ref l,.int 0 0] }).objs.size)))
    { s with heap:=(s.heap.push { cls:=.type "tuple_iterator",data:=.fields #[.ref l,.int 0 0] }).push { cls:=.type "enumerate",data:=.fields #[.none,.bool false,.ref s.heap.objs.size,rawInt 0,.none,.none] } }) :=
 .of_wp fun prog w A R s h => by
  obtain ⟨hp,g,d,tk,os⟩:=s; obtain ⟨hl,h⟩:=h
  have hsub:=sub_enumerate
  have hL:Heap.IsTuple (Shared.heap ⟨hp,g,d,tk,os⟩) l items:=⟨_,hl,rfl,n,rfl⟩
  wp_walk using wpAny_loadPart' hl
  refine wpAny_stack_any fun st => wpAny_pure ?_
  split
  ·rename_i c _ _ _ _ _
   cases (c == Value.type "enumerate")
   ·wp_walk using wpAny_loadPart' hl,wpAny_pyIter_tuple hL
    exact ⟨_,rfl,h⟩
   ·wp_walk using wpAny_loadPart' hl,wpAny_pyIter_tuple hL
    exact ⟨_,rfl,h⟩
  ·wp_walk using wpAny_loadPart' hl,wpAny_pyIter_tuple hL
   exact ⟨_,rfl,h⟩
section
variable {prog:Program} {w:World} {A:Around} {E:Value→Shared→Prop} {s:Shared}
theorem call_enumerate_tuple {l:Addr} {items:Array Value} {Q:Value→Shared→Prop} (hL:s.heap.IsTuple l items)
  (h:∀ h',IsEnum h' (s.heap.objs.size + 1) s.heap.objs.size 0 .none→h'.IsTupleIter s.heap.objs.size l 0→h'.objs.size = s.heap.objs.size + 2 →
   (∀ b o,s.heap.get? b = some o→h'.get? b = some o)→Q (.ref (s.heap.objs.size + 1)) { s with heap:=h' }) :
  wpAny (model prog w) A (call (.type "enumerate") [.ref l]) Q E s:=by
 obtain ⟨⟨c,dct,dt,sl⟩,hl,hc,n,hd⟩:=hL
 replace hc:c = .type "tuple":=hc
 replace hd:dt = .seq items n:=hd
 subst hc hd
 refine callType_new F.called_enumerate (by decide) (F.typeCall_enumerate_1 _) (F.newCall_enumerate_1 _) (fun obj => F.args_object_init_2 obj _) F.entry_enumerate_new
  (meets_enumerate_newT l items n dct sl) ⟨hl,?_⟩
 have hz:(s.heap.push { cls:=.type "tuple_iterator",data:=.fields #[.ref l,.int 0 0] }).objs.size = s.heap.objs.size + 1:=Heap.size_push ..
 show _∧_
 rw [hz]
 have he:IsEnum ((s.heap.push { cls:=.type "tuple_iterator",data:=.fields #[.ref l,.int 0 0] }).push
   { cls:=.type "enumerate",data:=.fields #[.none,.bool false,.ref s.heap.objs.size,rawInt 0,.none,.none] }) (s.heap.objs.size + 1) s.heap.objs.size 0 .none:=by
  have:=Heap.get?_push_size (s.heap.push { cls:=.type "tuple_iterator",data:=.fields #[.ref l,.int 0 0] })
   (o:={ cls:=.type "enumerate",data:=.fields #[.none,.bool false,.ref s.heap.objs.size,rawInt 0,.none,.none] }) rfl
  rw [hz] at this; exact this
 refine ⟨⟨_,he,rfl⟩,h _ he ⟨_,Heap.get?_push_of_some _ (Heap.get?_push_size _ rfl),rfl,rfl⟩ (by rw [Heap.size_push,hz]) fun b o x => Heap.get?_push_of_some _ (Heap.get?_push_of_some _ x)⟩
end
end PySem
namespace PySem
open Sem (wp)
open Builtin
open AutoSeq1 (wpAny_loadPart')
namespace F
theorem lk_list_keys:typeLookup (.type "list") "keys" = pure none:=by rw [typeLookup_type,builtinLookup_eq_fast]; kernel_rfl
theorem entry_dict_update_loop:entryFor table "dict.update.loop" = some Builtin.«dict.update.loop»:=entryFor_of_tree (by kernel_rfl)
theorem plain_dict_update_loop:plainId "dict.update.loop" = true:=by decide +kernel
end F
section
variable {prog:Program} {w:World} {A:Around} {E:Value→Shared→Prop} {s:Shared} {a:Addr} {xs:Array Value} {k:Nat} {sl:Array (Option Value)}
theorem keys_miss_list {Q:Option Value→Shared→Prop} (hx:s.heap.get? a = some { cls:=.type "list",dict:=none,data:=.seq xs k,slots:=sl }) (hA:A.handled = none)
  (h:∀ h' tk,(∀ b o,s.heap.get? b = some o→h'.get? b = some o)→Q none { s with heap:=h',toks:=tk }):wpAny (model prog w) A (getAttr? (.ref a) "keys") Q E s:=by
 obtain ⟨hp,g,d,tk,os⟩:=s
 have hT:∀ tk',(⟨hp,g,d,tk',os⟩:Shared).TypeIs (.ref a) "list":=fun _ => ⟨_,hx,rfl⟩
 have f1:=sub_AttributeError
 have f3:=F.slot_list_getattribute.lookup
 have f4:=F.slot_list_getattribute.bind (.ref a)
 have f5:=am_list_getattr_none
 unfold getAttr? getAttrBy? getAttrBy
 repeat (any_goals (first | assumption | exact hT _ | ((with_reducible show wpAny _ _ (call (Value.builtin "list.__getattribute__") _ _) _ _ _); refine call_meets F.slot_list_getattribute (hT _) am_entry_list_getattribute (F.args_list_getattribute_2 _ _) (meets_getattribute_miss_list a xs k sl "keys" _ F.lk_list_keys (by decide +kernel) (by decide +kernel)) ⟨hx,hA,fun h' tk' e hx' => ?_⟩) | wp_step))
 obtain ⟨t',u',he⟩:=hx'.there
 show wpAny _ _ (getattributeRaised _ _ _ _ _ _ _) _ _ _
 unfold getattributeRaised
 repeat (any_goals (first | assumption | wp_step))
 exact h _ _ hx'.keeps
end
end PySem
namespace PySem
open Sem (wp)
open Builtin
open AutoSeq1 (wpAny_loadPart')
section
variable {prog:Program} {w:World} {K:Type} [DecidableEq K] {knd:KeyKind prog w K} {A:Around} {E:Value→Shared→Prop} {R:Result→Shared→Prop}
noncomputable def PairsAt (knd:KeyKind prog w K) (h:Heap) (items:Array Value) (kvs:List (K × Value)) (d it:Addr):Prop :=
 ∀ (j:Nat) (v:Value),items[j]? = some v→∃ (p:Addr) (key val:Value) (k:K),v = .ref p∧h.IsTuple p #[key,val]∧knd.is k key = true∧kvs[j]? = some (k,val)∧p ≠ d∧p ≠ it
theorem stored_take {kvs:List (K × Value)} {i:Nat} {k:K} {v:Value} (hn:(kvs.map (·.1)).Nodup) (hi:kvs[i]? = some (k,v)):stored (kvs.take i) k v = kvs.take (i + 1):=by
 have hlt:i < kvs.length:=(List.getElem?_eq_some_iff.mp hi).1
 have hge:kvs[i] = (k,v):=(List.getElem?_eq_some_iff.mp hi).2
 have hnot:¬ ((kvs.take i).any fun kv => decide (kv.1 = k)) = true:=by
  intro h
  obtain ⟨x,hx,hk⟩:=List.any_eq_true.mp h
  have hk':x.1 = k:=of_decide_eq_true hk
  obtain ⟨j,hj,e⟩:=List.getElem_of_mem hx
  rw [List.length_take] at hj
  have hj2:j < kvs.length:=by omega
  have e2:kvs[j] = x:=by rw [← e,List.getElem_take]
  have:=(List.getElem_inj (h₀:=by rw [List.length_map]; exact hj2) (h₁:=by rw [List.length_map]; exact hlt) hn).mp (by rw [List.getElem_map,List.getElem_map,e2,hge]; exact hk')
  omega
 rw [stored,if_neg hnot,List.take_succ,hi]
 rfl
theorem dict_pairs_loop {d it l:Addr} {items:Array Value} {kvs:List (K × Value)} (hh:A.handled = none) (hdi:d ≠ it) (hdl:d ≠ l) (hli:l ≠ it) (hlen:kvs.length = items.size) (hn:(kvs.map (·.1)).Nodup) (hsz:items.size ≤ sizeLine) :
  ∀ (n i:Nat) (s:Shared),items.size - i = n→i ≤ items.size→s.heap.IsListIter it l i→s.heap.IsList l items→PairsAt knd s.heap items kvs d it→s.heap.DictOf knd d (kvs.take i) →
   (∀ h' tk,h'.DictOf knd d kvs→(∀ b o,b ≠ d→b ≠ it→s.heap.get? b = some o→h'.get? b = some o)→R (.ok (.ret .none)) { s with heap:=h',toks:=tk }) →
   codeAny (model prog w) A (.builtin "dict.update.loop" ⟨[.ref d,.ref it,rawInt i,.none],[]⟩) R s:=by
 intro n
 induction n with
 | zero =>
  intro i s hk hi hit hl hP hD hR
  have hin:i = items.size:=by omega
  subst hin
  refine codeAny_builtin F.entry_dict_update_loop ?_
  rw [Around.under_plainId F.plain_dict_update_loop _]
  unfold Builtin.«dict.update.loop»
  show wpAny _ A.in1 (pyNext (.ref it) >>= _) _ _ s
  refine wpAny_bind (wpAny_pyNext_list_end (by simp [hh]) hit hl (by simp) fun h' hs' => ?_)
  show wpAny _ _ (Builtin.Dict.addKeywords d [] >>= _) _ _ _
  refine wpAny_bind (wpAny_pure (wpAny_pure ?_))
  refine hR h' _ ?_ fun b o _ hb e => hs' b o hb e
  rw [List.take_of_length_le (by omega)] at hD
  exact hD.extBut hs' hdi
 | succ k ih =>
  intro i s hk hi hit hl hP hD hR
  have hlt:i < items.size:=by omega
  obtain ⟨p,key,val,kk,hv,ht,hkk,hkv,hpd,hpi⟩:=hP i items[i] (by simp [hlt])
  refine codeAny_builtin F.entry_dict_update_loop ?_
  rw [Around.under_plainId F.plain_dict_update_loop _]
  unfold Builtin.«dict.update.loop»
  show wpAny _ A.in1 (pyNext (.ref it) >>= _) _ _ s
  refine wpAny_bind (wpAny_pyNext_list_item hit hl (x:=items[i]) (by simp [hlt]) fun h' hit' hs' => ?_)
  rw [hv]
  dsimp only
  refine wpAny_bind (wpAny_holding ?_)
  have ht':h'.IsTuple p #[key,val]:=let ⟨o,ho,r⟩:=ht; ⟨o,(hs'.2 p hpi).trans ho,r⟩
  refine wpAny_bind (wpAny_tryCatch ?_)
  unfold Builtin.Dict.pairItems
  obtain ⟨o,ho,hc,nn,hd⟩:=id ht'
  refine wpAny_bind (wpAny_typeOf (s:={ s with heap:=h' }) (T:="tuple") ⟨o,ho,hc⟩ ?_)
  rw [if_pos (by decide)]
  refine wpAny_bind (wpAny_seqItems ho hd (wpAny_pure ?_))
  show wpAny _ _ (holding [key,val] (dictSet d key val)) _ _ _
  refine wpAny_holding (wpAny_dictSet_pairs (hsz:=by rw [List.length_take]; omega) hkk (hD.sameBut hs' hdi) fun h'' hD'' hs'' => ?_)
  rw [stored_take hn hkv] at hD''
  refine wpAny_pure ⟨plainId_quiet F.plain_dict_update_loop _,?_⟩
  refine ih (i + 1) _ (by omega) hlt (hit'.extBut hs''.extBut hdi.symm) ((hl.extBut hs'.extBut hli).extBut hs''.extBut hdl.symm) (fun j v e => ?_) hD'' fun h3 tk3 hD3 hk3 => ?_
  ·obtain ⟨p,key,val,kk,hv,ht,hkk,hkv,hpd,hpi⟩:=hP j v e
   exact ⟨p,key,val,kk,hv,(let ⟨o,ho,r⟩:=ht; ⟨o,(hs''.2 p hpd).trans ((hs'.2 p hpi).trans ho),r⟩),hkk,hkv,hpd,hpi⟩
  ·exact hR h3 tk3 hD3 fun b o hbd hbi e => hk3 b o hbd hbi ((hs''.2 b hbd).trans ((hs'.2 b hbi).trans e))
theorem call_dict_pairs {l:Addr} {items:Array Value} {kvs:List (K × Value)} {s:Shared} {Q:Value→Shared→Prop} {n:Nat} {sl:Array (Option Value)} (hh:A.handled = none) (hlen:kvs.length = items.size) (hn:(kvs.map (·.1)).Nodup) (hsz:items.size ≤ sizeLine)
  (hx:s.heap.get? l = some { cls:=.type "list",dict:=none,data:=.seq items n,slots:=sl })
  (hP:∀ (j:Nat) (v:Value),items[j]? = some v→∃ (p:Addr) (key val:Value) (k:K),v = .ref p∧s.heap.IsTuple p #[key,val]∧knd.is k key = true∧kvs[j]? = some (k,val))
  (h:∀ h' tk,h'.DictOf knd s.heap.objs.size kvs→(∀ b o,s.heap.get? b = some o→h'.get? b = some o)→Q (.ref s.heap.objs.size) { s with heap:=h',toks:=tk }) :
  wpAny (model prog w) A (call (.type "dict") [.ref l]) Q E s:=by
 refine callType_codes (Q₁:=fun obj s₁ => obj = .ref s.heap.objs.size∧s₁ = { s with heap:=s.heap.push { cls:=.type "dict",data:=.dict #[] } }) F.kt_called_dict (F.kt_typeCall_dict_1 _) F.entry_dict_init (kt_code_dict_new _ ⟨rfl,rfl⟩) ?_
 rintro obj s₁ ⟨rfl,rfl⟩
 have hnew:(s.heap.push { cls:=.type "dict",data:=.dict #[] }).DictOf knd s.heap.objs.size []:=Heap.DictOf.new s.heap
 have hx':(s.heap.push { cls:=.type "dict",data:=.dict #[] }).get? l = some { cls:=.type "list",dict:=none,data:=.seq items n,slots:=sl }:=Heap.get?_push_of_some _ hx
 have hlt:l < s.heap.objs.size:=Heap.lt_size hx
 refine ⟨hnew.typeIs,F.args_dict_init_2 _ _,?_⟩
 unfold Builtin.«dict.__init__»
 refine wpAny_bind ?_
 unfold Builtin.Dict.selfAndRest
 refine wpAny_bind (wpAny_notOrdered_dict hnew.typeIs ?_)
 show wpAny _ _ (pure (s.heap.objs.size,[Value.ref l])) _ _ _
 refine wpAny_pure ?_
 show wpAny _ _ (Builtin.Dict.updateFrom "dict.__init__" s.heap.objs.size (.ref l) [] .none) _ _ _
 unfold Builtin.Dict.updateFrom
 refine wpAny_bind (wpAny_typeOf (T:="list") ⟨_,hx',rfl⟩ ?_)
 rw [if_pos (by decide)]
 refine wpAny_bind (keys_miss_list hx' (by simp [hh]) fun h1 tk1 hk1 => ?_)
 rw [if_pos (by rfl)]
 refine wpAny_bind (wpAny_rule ?_)
 have hx1:h1.get? l = some { cls:=.type "list",dict:=none,data:=.seq items n,slots:=sl }:=hk1 _ _ hx'
 have hl1:h1.IsList l items:=⟨_,hx1,rfl,n,rfl⟩
 refine wpAny_bind (wpAny_pyIter_list hl1 ?_)
 have hd1:h1.DictOf knd s.heap.objs.size []:=let ⟨o,es,ep,ho,r⟩:=hnew; ⟨o,es,ep,hk1 _ _ ho,r⟩
 have hdlt:s.heap.objs.size < h1.objs.size:=let ⟨o,es,ep,ho,r⟩:=hd1; Heap.lt_size ho
 refine wpAny_pure ⟨plainId_quiet F.plain_dict_update_loop _,?_⟩
 refine dict_pairs_loop (knd:=knd) (kvs:=kvs) (l:=l) (items:=items) (by simp [hh]) (Nat.ne_of_lt hdlt) (Nat.ne_of_gt hlt) (Nat.ne_of_lt (Nat.lt_trans hlt hdlt)) hlen hn hsz items.size 0 _ rfl (Nat.zero_le _) ⟨_,Heap.get?_push_size _ rfl,rfl,rfl⟩ (hl1.push _) (fun j v e => ?_) (by simpa using hd1.push _) fun h2 tk2 hD2 hk2 => ?_
 ·obtain ⟨p,key,val,kk,hv,ht,hkk,hkv⟩:=hP j v e
  have hp:p < s.heap.objs.size:=let ⟨o,ho,_⟩:=ht; Heap.lt_size ho
  exact ⟨p,key,val,kk,hv,(let ⟨o,ho,r⟩:=ht; ⟨o,Heap.get?_push_of_some _ (hk1 _ _ (Heap.get?_push_of_some _ ho)),r⟩),hkk,hkv,Nat.ne_of_lt hp,Nat.ne_of_lt (Nat.lt_trans hp hdlt)⟩
 ·exact ⟨rfl,h h2 tk2 hD2 fun b o e => hk2 b o (Nat.ne_of_lt (Heap.lt_size e)) (Nat.ne_of_lt (Nat.lt_trans (Heap.lt_size e) hdlt)) (Heap.get?_push_of_some _ (hk1 _ _ (Heap.get?_push_of_some _ e)))⟩
end
end PySem
namespace L2
open PySem PySem.Spec PyProof.Rows
section
variable {X:Cx}
theorem call_isinst:CallR X (.builtin "isinstance") (fun xs H Q => ∃ x T t b,xs = [x,.ty T]∧TyOf X.K H x t∧PySem.W.kitOne X.K t (.type T) = some b∧Q (.bl b) H):=by
 intro pins s σ H xs us Q I r h
 obtain ⟨x,T,t,b,rfl,ty,e,q⟩:=h
 obtain ⟨u,w',rfl,rx,rT⟩:=vals2 r
 cases (show w' = Value.type T from rT)
 exact isinst_ok I rx ty e fun tk => ⟨.bl b,H,I.tok _,rfl,q⟩
theorem bools_of:∀ {bs:List Bool} {us:List Value},Vals (bs.map V.bl) us→LSm.BoolsAre us bs
 | [],_,.nil => .nil
 | b :: bs,_,.cons r t => by
  cases (show _ = Value.bool b from r)
  exact .cons b (bools_of t)
end
section
variable {X:Cx} {pins:List (Addr × Obj)} {σ:St} {H:Hp} {s:Shared}
theorem call_all (hc:X.calm = true):CallR X (.builtin "all") (fun xs H Q => ∃ (p:Addr) (bs:List Bool),xs = [.ref p]∧SqL X.K H p (bs.map V.bl)∧Q (.bl (bs.all id)) H):=by
 intro pins s σ H xs us Q I r h
 obtain ⟨p,bs,rfl,hq,q⟩:=h
 obtain ⟨u,rfl,rx⟩:=vals1 r
 cases rx
 obtain ⟨its,rv,pl,hz⟩:=I.list hq
 have hb:=bools_of rv
 have hlt:p < s.heap.objs.size:=by obtain ⟨_,e,_⟩:=pl.isList; exact Heap.lt_size e
 refine call_all_walk (wpAny_pyIter_list pl.isList ?_)
 refine ⟨s.heap.objs.size,[s.heap.objs.size,p],[s.heap.objs.size],its.toArray.size,_,_,fun i => (bs[i]?).getD true,rfl,Walks.list (A:=X.A.in1) (by simp [I.ok.hd hc]) _ p (Nat.ne_of_lt hlt) its.toArray,⟨⟨_,Heap.get?_push_size _ rfl,rfl,rfl⟩,pl.isList.push _⟩,fun i v s' Q' E' hP hQ => ?_,fun h' tk hk => ?_⟩
 ·obtain ⟨b,e,rfl⟩:=hb.get i v (by simpa using hP)
  dsimp only at hQ; rw [e] at hQ
  exact wpAny_truthy_bool hQ
 ·have e:((List.range its.toArray.size).all fun i => (bs[i]?).getD true) = bs.all id:=by rw [List.size_toArray,hb.length,LSm.range_all]
  rw [e]
  exact ⟨.bl _,H,I.kept (h':=h') (t':=tk) (LSm.kept_iter hk),rfl,q⟩
theorem call_any (hc:X.calm = true):CallR X (.builtin "any") (fun xs H Q => ∃ (p:Addr) (bs:List Bool),xs = [.ref p]∧SqL X.K H p (bs.map V.bl)∧Q (.bl (bs.any id)) H):=by
 intro pins s σ H xs us Q I r h
 obtain ⟨p,bs,rfl,hq,q⟩:=h
 obtain ⟨u,rfl,rx⟩:=vals1 r
 cases rx
 obtain ⟨its,rv,pl,hz⟩:=I.list hq
 have hb:=bools_of rv
 have hlt:p < s.heap.objs.size:=by obtain ⟨_,e,_⟩:=pl.isList; exact Heap.lt_size e
 refine call_any_walk (wpAny_pyIter_list pl.isList ?_)
 refine ⟨s.heap.objs.size,[s.heap.objs.size,p],[s.heap.objs.size],its.toArray.size,_,_,fun i => (bs[i]?).getD false,rfl,Walks.list (A:=X.A.in1) (by simp [I.ok.hd hc]) _ p (Nat.ne_of_lt hlt) its.toArray,⟨⟨_,Heap.get?_push_size _ rfl,rfl,rfl⟩,pl.isList.push _⟩,fun i v s' Q' E' hP hQ => ?_,fun h' tk hk => ?_⟩
 ·obtain ⟨b,e,rfl⟩:=hb.get i v (by simpa using hP)
  dsimp only at hQ; rw [e] at hQ
  exact wpAny_truthy_bool hQ
 ·have e:((List.range its.toArray.size).any fun i => (bs[i]?).getD false) = bs.any id:=by rw [List.size_toArray,hb.length,LSm.range_any]
  rw [e]
  exact ⟨.bl _,H,I.kept (h':=h') (t':=tk) (LSm.kept_iter hk),rfl,q⟩
theorem Inv.turnedL {fp:List Addr} {h':Heap} {t':Nat} (I:Inv X pins σ H s) (k:∀ b o,b ∉ fp→s.heap.get? b = some o→h'.get? b = some o) (hf:∀ b ∈ fp,FpOk X pins H b):Inv X pins σ H { s with heap:=h',toks:=t' }:=by
 have nfp:∀ b u,H b = some u→b ∉ fp:=fun b u e z => by rw [(hf b z).1] at e; cases e
 refine I.step (g':=s.gens) (d':=s.drawn) (ch:=fp) (fun b hb => ⟨(hf b hb).2.2.2.1,(hf b hb).2.1,(hf b hb).2.2.2.2.1,(hf b hb).2.2.2.2.2⟩) (fun b o _ _ hc e _ => k b o hc e) (fun b o _ _ hc e _ => ⟨o.slots,k b o hc e⟩) (fun _ _ _ _ n => n) (fun b o hc e => ⟨o,k b o hc e⟩)
  (fun _ _ e => e) (fun _ _ _ e => e) (fun b ps e => ⟨#[],by rw [e]; simp⟩) (fun m hm => ?_) (fun b u e => ?_) I.bare
 ·obtain ⟨o,es,ep,ho,r⟩:=hm
  exact ⟨o,es,ep,k _ o (fun z => (hf _ z).2.1 rfl) ho,r⟩
 ·refine (I.hok b u e).stay (fun c v hc q => k c v ?_ q) (fun _ q => q) fun _ _ q => q
  rcases hc with z | z
  ·rw [z]; exact nfp b u e
  ·exact nfp c _ z
theorem Inv.turnLaid {fp:List Addr} {h':Heap} {t':Nat} {p:Addr} {o:HO} (I:Inv X pins σ H s) (k:∀ b u,b ∉ fp→s.heap.get? b = some u→h'.get? b = some u) (hf:∀ b ∈ fp,FpOk X pins H b) (hp:s.heap.objs.size ≤ p)
  (new:ObjOk X.prog X.w (upd H p o) h' p o):Inv X pins σ (upd H p o) { s with heap:=h',toks:=t' }:=by
 have nfp:∀ b u,H b = some u→b ∉ fp:=fun b u e z => by rw [(hf b z).1] at e; cases e
 have hn:=I.hok.fresh hp
 have old:∀ {b:Addr} {u:Obj},s.heap.get? b = some u→b ≠ p:=fun e => Nat.ne_of_lt (Nat.lt_of_lt_of_le (Heap.lt_size e) hp)
 refine I.step (g':=s.gens) (d':=s.drawn) (ch:=fp) (fun b hb => ⟨(hf b hb).2.2.2.1,(hf b hb).2.1,(hf b hb).2.2.2.2.1,(hf b hb).2.2.2.2.2⟩) (fun b o _ _ hc e _ => k b o hc e) (fun b o _ _ hc e _ => ⟨o.slots,k b o hc e⟩) (fun b o _ e n => by rw [upd_ne (old e)]; exact n) (fun b o hc e => ⟨o,k b o hc e⟩)
  (fun b xs e => by rw [upd_ne (ne_of_none e hn)]; exact e) (fun b u xs e => by rw [upd_ne (ne_of_none e hn)]; exact e) (fun b ps e => ⟨#[],by rw [upd_ne (ne_of_none e hn),e]; simp⟩) (fun m hm => ?_) (fun b u e => ?_) I.bare
 ·obtain ⟨o,es,ep,ho,r⟩:=hm
  exact ⟨o,es,ep,k _ o (fun z => (hf _ z).2.1 rfl) ho,r⟩
 ·by_cases hb:b = p
  ·subst hb; rw [upd_same] at e; cases e; exact new
  ·rw [upd_ne hb] at e
   refine (I.hok b u e).stay (fun c v hc q => k c v ?_ q) (fun c q => by rw [upd_ne (ne_of_none q hn)]; exact q) fun c xs q => by rw [upd_ne (ne_of_none q hn)]; exact q
   rcases hc with z | z
   ·rw [z]; exact nfp b u e
   ·exact nfp c _ z
noncomputable def Ite (S:Hp→List V→Prop):It :=
 ⟨fun i H => ∃ xs x,S H xs∧xs[i]? = some x,fun i H x H' => ∃ p y,x = .ref p∧H p = none∧H' = upd H p (.tup [.int i,y])∧∀ xs,S H xs→xs[i]? = some y,fun i H => ∃ xs,S H xs∧xs.length = i⟩
theorem turn_enumT {P:Program} {w:World} {K:PySem.W.Frag} {es:List Expr} {x1} {pos:Pos} (e it a:Addr) (hei:e ≠ it) :
  Turn P w K (.Tuple es x1 pos) (Ite fun H xs => SqT K H a xs) [e,it] e (fun i h => (∃ old,IsEnum h e it i old)∧h.IsTupleIter it a i∧a ≠ it∧a ≠ e) where
 mem:=by simp
 obj:=fun i h st b hb => by
  obtain ⟨⟨old,he⟩,⟨o,e1,c,d⟩,_⟩:=st
  rcases List.mem_cons.mp hb with z | z
  ·subst z; exact ⟨_,he,fun v z => by cases z⟩
  ·have z':=List.mem_singleton.mp z
   subst z'; exact ⟨o,e1,fun v z => by rw [d] at z; cases z⟩
 keep:=fun i h h' st k => ⟨let ⟨old,he⟩:=st.1; ⟨old,k e (by simp) _ he⟩,st.2.1.at fun o q => k it (by simp) o q,st.2.2⟩
 item:=by
  intro X hP hw hK hc i pins s σ H E I hf st hg
  subst hP hw hK
  obtain ⟨⟨old,he⟩,hit,hai,hae⟩:=st
  obtain ⟨xs,x,hq,hx⟩:=hg
  obtain ⟨its,rv,p,hz⟩:=I.tuple hq
  obtain ⟨u,hu,ru⟩:=rv.get hx
  have hlt:i < its.toArray.size:=by
   rw [List.size_toArray]; exact (List.getElem?_eq_some_iff.mp hu).1
  refine wpAny_pyNext_enum_itemD (Draws.tuple (A:=X.A.in1) (by simp [I.ok.hd hc]) it a hai its.toArray) he ⟨hit,p⟩ hlt hei (by simp [hei,Ne.symm hae]) fun v h' tk hv ho hst' hT hsz hk => ?_
  have hv':v = u:=by
   have e1:its[i]? = some v:=by simpa using hv
   rw [hu] at e1; exact (Option.some.inj e1).symm
  subst hv'
  refine ⟨_,rfl,wpAny_letOwnedTupleGo_enum (s:={ s with heap:=h',toks:=tk + 1 }) ho fun h2 he2 hs2 => ?_⟩
  have helt:e < s.heap.objs.size:=Heap.lt_size he
  have hilt:it < s.heap.objs.size:=by obtain ⟨_,q,_⟩:=hit; exact Heap.lt_size q
  have hTe:s.heap.objs.size ≠ e:=Nat.ne_of_gt helt
  have hn:H s.heap.objs.size = none:=I.hok.fresh (Nat.le_refl _)
  have kp:∀ b o,b ∉ [e,it]→s.heap.get? b = some o→h2.get? b = some o:=fun b o hb q => by
   have hbe:b ≠ e:=fun z => hb (by simp [z])
   have hbi:b ≠ it:=fun z => hb (by simp [z])
   exact (hs2.2 b hbe).trans (hk b o hbe hbi q)
  have hT2:h2.get? s.heap.objs.size = some { cls:=.type "tuple",data:=.seq #[.int i tk,v] }:=(hs2.2 _ hTe).trans hT
  have I2:Inv X pins σ (upd H s.heap.objs.size (.tup [.int i,x])) { s with heap:=h2,toks:=tk + 1 }:=I.turnLaid (fp:=[e,it]) kp hf (Nat.le_refl _) ⟨by show 2 ≤ sizeLine; rw [sizeLine_eq]; decide,[.int i tk,v],.cons ⟨_,rfl⟩ (.cons ru .nil),⟨_,hT2,rfl,_,rfl⟩⟩
  refine ⟨.ref s.heap.objs.size,_,I2,rfl,⟨s.heap.objs.size,x,rfl,hn,rfl,fun ys hy => by rw [I.tuple_inj hy hq]; exact hx⟩,⟨⟨_,by simpa using he2⟩,hst'.1.at fun o q => (hs2.2 it hei.symm).trans q,hai,hae⟩,fun b hb => ?_⟩
  have hbz:b ≠ s.heap.objs.size:=by
   rcases List.mem_cons.mp hb with z | z
   ·rw [z]; exact Nat.ne_of_lt helt
   ·rw [List.mem_singleton.mp z]; exact Nat.ne_of_lt hilt
  rw [upd_ne hbz]; exact (hf b hb).1
 done:=by
  intro X hP hw hK hc i pins s σ H E I hf st hg
  subst hP hw hK
  obtain ⟨⟨old,he⟩,hit,hai,hae⟩:=st
  obtain ⟨xs,hq,hx⟩:=hg
  obtain ⟨its,rv,p,hz⟩:=I.tuple hq
  have hl:=rv.length
  have hi:its.toArray.size = i:=by rw [List.size_toArray,← hl,hx]
  refine wpAny_pyNext_enum_endD (Draws.tuple (A:=X.A.in1) (by simp [I.ok.hd hc]) it a hai its.toArray) he (by rw [hi]; exact ⟨hit,p⟩) fun h' hs' => ⟨rfl,?_⟩
  exact I.turned (it:=it) (t':=s.toks) (fun b o hb q => hs' b o hb q) (hf it (by simp)).1 (hf it (by simp)).2.1 (hf it (by simp)).2.2.2.1 (hf it (by simp)).2.2.2.2.1 (hf it (by simp)).2.2.2.2.2
 self:=fun _ _ _ _ _ st h => let ⟨old,he⟩:=st.1; wpAny_pyIter_enum he h
noncomputable def iEnumT (K:PySem.W.Frag) (ta:TA):TI:=fun σ H R => ta σ H fun vs H1 => ∃ a xs,vs = [.ref a]∧SqT K H1 a xs∧R (Ite fun H xs => SqT K H a xs) H1
theorem pi_enumT {a:Expr} {ta:TA} {p pos:Pos} {es:List Expr} {x1} {tpos:Pos} (hc:X.calm = true) (hg:Gl X "enumerate") (hm:X.mg "enumerate" = none) (ha:PA X [a] ta) (hs:starEach [a] X.env = [(false,eval a X.env)]:=by rfl) :
  PI X (.Tuple es x1 tpos) (.Call (.Name "enumerate" p) [a] [] pos) (iEnumT X.K ta):=by
 intro pins s σ H R I h
 refine Call_ (ld_blt I hg hm boot_enumerate (PyProof.Rows.callWith_type1 (thn (ha pos pins s σ H _ I h) fun us s1 ⟨vs,H1,I1,r1,q1⟩ => ?_) hs rfl))
 obtain ⟨b,xs,e,hq,q⟩:=q1
 subst e
 obtain ⟨u,rfl,rx⟩:=vals1 r1
 cases rx
 obtain ⟨its,rv,pt,hz⟩:=I1.tuple hq
 have hblt:b < s1.heap.objs.size:=by obtain ⟨o,ho,_⟩:=id pt; exact Heap.lt_size ho
 refine call_enumerate_tuple pt fun h' he hit hsz hk => ?_
 refine wpAny_pyIter_enum (s:={ s1 with heap:=h' }) he ?_
 have I2:Inv X pins σ H1 { s1 with heap:=h' }:=I1.kept (t':=s1.toks) hk
 refine ⟨s1.heap.objs.size + 1,[s1.heap.objs.size + 1,s1.heap.objs.size],_,_,H1,rfl,I2,turn_enumT _ _ b (Nat.succ_ne_self _),⟨⟨_,he⟩,hit,Nat.ne_of_lt hblt,Nat.ne_of_lt (Nat.lt_succ_of_lt hblt)⟩,fun c hc' => ?_,q⟩
 have hge:s1.heap.objs.size ≤ c:=by
  rcases List.mem_cons.mp hc' with z | z
  ·rw [z]; exact Nat.le_succ _
  ·rw [List.mem_singleton.mp z]; exact Nat.le_refl _
 exact I1.fpOk hge (I1.hok.fresh hge)
theorem for_enum {S:Hp→List V→Prop} {xs:List V} {g:TG} {tb:TS} {D:Ends} {σ:St} {H:Hp} (Pv:Nat→St→Hp→Prop) (h0:Pv 0 σ H) (hl:∀ i σ H,i ≤ xs.length→Pv i σ H→S H xs)
  (hs:∀ i x p σ H,xs[i]? = some x→Pv i σ H→H p = none→g (.ref p) σ (upd H p (.tup [.int i,x])) fun σ2 H2 => tb { D with nx:=Pv (i + 1),ct:=Pv (i + 1),bk:=D.nx } σ2 H2) (hd:∀ σ H,Pv xs.length σ H→D.nx σ H) :
  tForJ (Ite S) g tb D σ H:=by
 refine ⟨fun i m σ H => m = xs.length - i∧i ≤ xs.length∧Pv i σ H,⟨xs.length,by simp,Nat.zero_le _,h0⟩,?_⟩
 rintro i m σ H ⟨rfl,hi,p⟩
 have q:=hl i σ H hi p
 by_cases hlt:i < xs.length
 ·refine .inr ⟨⟨xs,xs[i],q,by simp [hlt]⟩,Pv (i + 1),fun σ' H' p' => ⟨xs.length - (i + 1),by omega,rfl,hlt,p'⟩,fun x H' y => ?_⟩
  obtain ⟨pp,yy,e1,e2,e3,e4⟩:=y
  subst e1 e3
  exact hs i yy pp σ H (e4 xs q) p e2
 ·have e:i = xs.length:=by omega
  subst e
  exact .inl ⟨⟨xs,q,rfl⟩,hd σ H p⟩
end
end L2
namespace L2
open PySem PySem.Spec PyProof.Rows
section
variable {X:Cx} {pins:List (Addr × Obj)} {σ:St} {H:Hp} {s:Shared}
noncomputable def NewTup (H:Hp) (ys:List V) (Q:VK):Prop:=∀ p H',Same H H'→H' p = some (.tup ys)→Q (.ref p) H'
theorem same_upd {H:Hp} {p:Addr} {o:HO} (h:H p = none):Same H (upd H p o):=fun b u e => by rw [upd_ne (ne_of_none e h)]; exact e
theorem NewTup.new {ys:List V} {Q:VK} {p:Addr} (h:NewTup H ys Q) (hp:H p = none):Q (.ref p) (upd H p (.tup ys)):=h p _ (same_upd hp) upd_same
theorem NewTup.old {ys:List V} {Q:VK} {p:Addr} (h:NewTup H ys Q) (hp:H p = some (.tup ys)):Q (.ref p) H:=h p H (Same.refl H) hp
theorem Inv.newTup {ys:List V} {its:List Value} {Q:VK} (I:Inv X pins σ H s) (r:Vals ys its) (hz:ys.length ≤ sizeLine) (h:NewTup H ys Q):EP X pins σ Q (.ref s.heap.objs.size) { s with heap:=s.heap.push { cls:=.type "tuple",data:=.seq its.toArray } } :=
 ⟨.ref s.heap.objs.size,_,I.laid (t':=s.toks) (o:=.tup ys) (fun b ob q => Heap.get?_push_of_some _ q) (Nat.le_refl _) ⟨hz,_,r,IsTup.new _ _⟩,rfl,h.new (I.hok.fresh (Nat.le_refl _))⟩
noncomputable def rCatU:R2:=fun x y H Q => ∃ a b xs ys,x = .ref a∧y = .ref b∧H a = some (.tup xs)∧H b = some (.tup ys)∧xs.length + ys.length ≤ sizeLine∧NewTup H (xs ++ ys) Q
theorem op_catU:OpR X (binaryOp .Add) rCatU:=by
 intro pins s σ H x y v u Q I rx ry h
 obtain ⟨a,b,xs,ys,rfl,rfl,ha,hb,hz,q⟩:=h
 cases rx
 cases ry
 obtain ⟨its,r1,p1,_⟩:=I.tuple (SqT.of ha)
 obtain ⟨its2,r2,p2,_⟩:=I.tuple (SqT.of hb)
 by_cases hx:xs = []
 ·subst hx
  cases r1
  obtain ⟨⟨c1,d1,t1,l1⟩,ho,hc,n,hd⟩:=id p1
  obtain ⟨⟨c2,d2,t2,l2⟩,ho2,hc2,n2,hd2⟩:=id p2
  simp only at hc hd hc2 hd2
  subst hc hd hc2 hd2
  exact concat_meets ⟨_,ho,rfl⟩ ⟨_,ho2,rfl⟩ noFill_tuple_add seq_tuple_add PySem.F.slot_tuple_add PySem.F.entry_tuple_add (PySem.F.args_tuple_add_2 _ _) (tuple_addW0 a b _ _ n n2 d1 d2 l1 l2 (by simp)) ⟨ho,ho2,.ref b,H,I,rfl,q.old hb⟩
 ·refine HT.cat_tup p1 p2 (fun z => hx (r1.nil_iff.mp z)) (fun z => ⟨.ref a,H,I,rfl,?_⟩) (fun z => I.newTup (r1.append r2) (by rw [List.length_append]; exact hz) q) (by rw [← r1.length,← r2.length]; exact hz)
  have:ys = []:=r2.nil_iff.mp z
  subst this
  rw [List.append_nil] at q
  exact q.old ha
theorem slice_same {t sl:Addr} {items:Array Value} {vl vu:Value} {lo hi:Option Int} {Q:Value→Shared→Prop} {prog:Program} {w:World} {A:Around} {E:Value→Shared→Prop} (ht:IsTup s.heap t items) (hs:s.heap.IsSliceOf sl vl vu .none) (pl:IsPart vl lo) (pu:IsPart vu hi)
  (hw:HT.sIx items.size 0 lo = 0∧HT.sIx items.size items.size hi = items.size) (h:Q (.ref t) s):wpAny (model prog w) A (getItem (.ref t) (.ref sl)) Q E s:=by
 obtain ⟨os,hos,hcs,hds⟩:=id hs
 have hTs:s.TypeIs (.ref sl) "slice":=⟨os,hos,hcs⟩
 unfold getItem
 try with_reducible refine wpAny_holding ?_
 first | refine wpAny_bind (wpAny_pure ?_) | skip
 refine wpAny_bind (wpAny_sequenceKey ht.typeIs (by decide) (wpAny_bind (wpAny_callSpecial?_slot (name:=Str.ofString "__getitem__") ht.typeIs PyProof.Rows.slot_tuple_getitem (wpAny_call_entry PyProof.Rows.slot_tuple_getitem ht.typeIs entry_tuple_getitem ?_ (args_tuple_getitem _ _)))))
 show wpAny _ _ (Builtin.Tuple.tupleItemsOf (.ref t) >>= _) _ _ s
 refine wpAny_bind (tupleItemsOf_ ht (wpAny_bind (wpAny_typeOf hTs ?_)))
 rw [if_pos (by decide)]
 refine wpAny_bind (HT.sliceApplied_gen hs pl pu ?_)
 have hyes:(((HT.sIx items.size 0 lo:Nat):Int) == 0 && (1:Int) == 1 && (HT.sIx items.size items.size hi - HT.sIx items.size 0 lo) == items.size) = true:=by rw [hw.1,hw.2]; simp
 show wpAny _ _ (if (((HT.sIx items.size 0 lo:Nat):Int) == 0 && (1:Int) == 1 && (HT.sIx items.size items.size hi - HT.sIx items.size 0 lo) == items.size) = true then _ else _) _ _ s
 rw [if_pos hyes]
 obtain ⟨⟨c1,d1,t1,l1⟩,ho,hc,n,hd⟩:=id ht
 simp only at hc hd
 subst hc hd
 obtain ⟨hp,g,d,tk,osx⟩:=s
 wp_walk using AutoSeq1.wpAny_loadPart' ho
 all_goals first | exact ⟨_,rfl,h⟩ | exact ⟨_,rfl,wpAny_pure h⟩
noncomputable def rSlU:V→Option Int→Option Int→Hp→VK→Prop:=fun x lo hi H Q => ∃ a xs,x = .ref a∧H a = some (.tup xs)∧NewTup H (cutV xs lo hi) Q
theorem sl_tupU:SlR X rSlU:=by
 intro pins s σ H x v vl vu lo hi sl Q I rx hs pl pu h
 obtain ⟨a,xs,rfl,hx,q⟩:=h
 cases rx
 obtain ⟨its,r,ht,hz⟩:=I.tuple (SqT.of hx)
 have hlen:its.toArray.size = xs.length:=by rw [List.size_toArray]; exact r.length.symm
 refine ⟨"tuple",_,PyProof.Rows.slot_tuple_getitem.lookup,ht.typeIs,?_⟩
 by_cases hw:HT.sIx xs.length 0 lo = 0∧HT.sIx xs.length xs.length hi = xs.length
 ·refine slice_same ht hs pl pu (by rw [hlen]; exact hw) ⟨.ref a,H,I,rfl,?_⟩
  have:cutV xs lo hi = xs:=by unfold cutV; rw [hw.1,hw.2]; simp
  rw [this] at q
  exact q.old hx
 ·refine HT.getItem_tuple_cut ht hs pl pu (by rw [hlen]; exact hw) ?_ (by rw [hlen]; exact hz)
  rw [hlen]
  exact I.newTup ((r.drop (HT.sIx xs.length 0 lo)).take (HT.sIx xs.length xs.length hi - HT.sIx xs.length 0 lo)) (Nat.le_trans (cutV_length xs lo hi) hz) q
noncomputable def enumK (vs:List V):List (Key × V):=vs.zipIdx.map fun p => (Sum.inl (p.2:Int),p.1)
theorem call_dictL (hc:X.calm = true):CallR X (.type "dict") (fun xs H Q => ∃ (p:Addr) (ps:List Addr) (vs:List V),xs = [.ref p]∧H p = some (.lst (ps.map V.ref))∧ps.length = vs.length ∧
  (∀ (j:Nat) (q:Addr) (v:V),ps[j]? = some q→vs[j]? = some v→H q = some (.tup [.int j,v]))∧∀ l,H l = none→Q (.ref l) (upd H l (.dK (enumK vs)))):=by
 intro pins s σ H xs us Q I r h
 obtain ⟨p,ps,vs,rfl,hp,hl,hP,q⟩:=h
 obtain ⟨u,rfl,rx⟩:=vals1 r
 cases rx
 obtain ⟨z,its,n,rv,hlen,e⟩:=I.lstM hp
 have hpl:ps.length = its.length:=by rw [← hlen,List.length_map]
 -- the values behind the pairs
 have get:∀ (j:Nat) (q:Addr),ps[j]? = some q→its[j]? = some (.ref q)∧∃ v w' t,vs[j]? = some v∧RelV v w'∧s.heap.IsTuple q #[.int j t,w']:=fun j q hj => by
  obtain ⟨u,hu,ru⟩:=rv.get (i:=j) (x:=.ref q) (by rw [List.getElem?_map,hj]; rfl)
  cases (show u = Value.ref q from ru)
  have hjl:j < vs.length:=by rw [← hl]; exact (List.getElem?_eq_some_iff.mp hj).1
  obtain ⟨_,tv,rt,pt⟩:=(show ObjOk X.prog X.w H s.heap q (.tup [.int j,vs[j]]) from I.hok q _ (hP j q vs[j] hj (by simp [hjl])))
  obtain ⟨a,b,rfl,ra,rb⟩:=rt.two
  obtain ⟨t,rfl⟩:=ra
  exact ⟨hu,vs[j],b,t,by simp [hjl],rb,pt⟩
 have all:∃ ws:List Value,ws.length = vs.length∧∀ (j:Nat) (q:Addr),ps[j]? = some q→∃ v w' t,vs[j]? = some v∧ws[j]? = some w'∧RelV v w'∧s.heap.IsTuple q #[.int j t,w']:=by
  refine ⟨(List.range vs.length).map fun j => if h:j < ps.length then (Classical.choose (Classical.choose_spec (get j ps[j] (by simp [h])).2)) else .none,by simp,fun j q hj => ?_⟩
  obtain ⟨hjl,hjq⟩:=List.getElem?_eq_some_iff.mp hj
  have key:=Classical.choose_spec (Classical.choose_spec (get j ps[j] (by simp [hjl])).2)
  obtain ⟨t,k1,k2,k3⟩:=key
  refine ⟨_,_,t,k1,?_,k2,by rw [← hjq]; exact k3⟩
  rw [List.getElem?_map,List.getElem?_range (by omega)]
  simp [hjl]
 obtain ⟨ws,hw,all⟩:=all
 have hzv:vs.length ≤ sizeLine:=by rw [List.length_map] at z; omega
 have kvW:(ws.zipIdx.map fun p => ((Sum.inl (p.2:Int):Key),p.1)).length = its.toArray.size:=by simp; omega
 have ndW:((ws.zipIdx.map fun p => ((Sum.inl (p.2:Int):Key),p.1)).map (·.1)).Nodup:=by
  rw [List.map_map,List.nodup_iff_pairwise_ne,List.pairwise_map]
  refine List.Pairwise.imp (R:=fun a b => a.2 < b.2) (fun {a b} h e => ?_) ?_
  ·have:((a.2:Nat):Int) = (b.2:Nat):=Sum.inl.inj e
   omega
  ·rw [List.pairwise_iff_getElem]
   intro i j hi hj hij
   simp only [List.getElem_zipIdx]
   omega
 refine call_dict_pairs (knd:=mixKind X.prog X.w) (I.ok.hd hc) kvW ndW (by rw [List.size_toArray]; omega) e (fun j v hv => ?_) fun h' tk hD hk => ?_
 ·have hv':its[j]? = some v:=by simpa using hv
  have hjl:j < ps.length:=by rw [hpl]; exact (List.getElem?_eq_some_iff.mp hv').1
  obtain ⟨e1,_⟩:=get j ps[j] (by simp [hjl])
  obtain ⟨v',w',t,k1,k2,k3,k4⟩:=all j ps[j] (by simp [hjl])
  rw [hv'] at e1
  refine ⟨ps[j],.int j t,w',Sum.inl (j:Int),Option.some.inj e1,k4,mixKind_int _ _ _ _,?_⟩
  rw [List.getElem?_map,List.getElem?_zipIdx,k2]
  simp
 ·refine ⟨.ref s.heap.objs.size,_,I.laid (t':=tk) (o:=.dK (enumK vs)) hk (Nat.le_refl _) ?_,rfl,q _ (I.hok.fresh (Nat.le_refl _))⟩
  refine ⟨by unfold enumK; simp; exact hzv,beq_eq_false_iff_ne.mpr (Nat.ne_of_gt I.big),_,?_,hD⟩
  have go:∀ (vs:List V) (ws:List Value) (n:Nat),vs.length = ws.length→(∀ (j:Nat) v w',vs[j]? = some v→ws[j]? = some w'→RelV v w')→KV ((vs.zipIdx n).map fun p => ((Sum.inl (p.2:Int):Key),p.1)) ((ws.zipIdx n).map fun p => ((Sum.inl (p.2:Int):Key),p.1)):=by
   intro vs
   induction vs with
   | nil => intro ws n hl _; cases ws with | nil => exact .nil | cons _ _ => simp at hl
   | cons v vs ih =>
    intro ws n hl hr
    cases ws with
    | nil => simp at hl
    | cons w' ws =>
     rw [List.zipIdx_cons,List.zipIdx_cons]
     exact .cons ⟨rfl,hr 0 v w' rfl rfl⟩ (ih ws (n + 1) (by simpa using hl) fun j a b h1 h2 => hr (j + 1) a b (by simpa using h1) (by simpa using h2))
  refine go vs ws 0 hw.symm fun j v w' h1 h2 => ?_
  have hjl:j < ps.length:=by rw [hl]; exact (List.getElem?_eq_some_iff.mp h1).1
  obtain ⟨v',w2,t,k1,k2,k3,k4⟩:=all j ps[j] (by simp [hjl])
  rw [h1] at k1; rw [h2] at k2
  cases k1; cases k2
  exact k3
theorem op_rep_str:OpR X (binaryOp .Mult) (fun x y H Q => ∃ (z:Str) (k:Int),x = .str z∧y = .int k∧1 ≤ k∧k ≤ 1000∧z.length ≤ 1000∧∀ z',Q (.str z') H):=by
 intro pins s σ H x y v u Q I rx ry h
 obtain ⟨z,k,rfl,rfl,h1,h2,h3,q⟩:=h
 obtain ⟨t,rfl⟩:=rx
 obtain ⟨t',rfl⟩:=ry
 have hm:z.length * k.toNat ≤ 1000 * 1000:=Nat.mul_le_mul h3 (by omega)
 have hrl:(List.foldl (fun x1 x2 => x1 ++ x2) #[] (List.replicate k.toNat z.cps)).size = k.toNat * z.cps.size:=by
  have go:∀ (m:Nat) (acc:Array Nat),(List.foldl (fun x1 x2 => x1 ++ x2) acc (List.replicate m z.cps)).size = acc.size + m * z.cps.size:=by
   intro m
   induction m with
   | zero => intro acc; simp
   | succ m ih => intro acc; rw [List.replicate_succ,List.foldl_cons,ih,Array.size_append,Nat.succ_mul]; omega
  rw [go]; simp
 refine PySem.P.mul_str (by simp only [Bool.or_eq_false_iff,decide_eq_false_iff_not]; omega) (fun _ _ => ?_) (fun _ _ => ?_) ?_
 ·have:(1:Int) ≤ (2 ^ 63 - 1) / k:=by
   rw [Int.le_ediv_iff_mul_le (by omega)]; omega
  have h5:(1000:Int) ≤ (2 ^ 63 - 1) / k:=by
   rw [Int.le_ediv_iff_mul_le (by omega)]; omega
  omega
 ·first | (unfold PySem.Builtin.Str.tooLong; rw [decide_eq_false_iff_not,sizeLine_eq]; omega) | (unfold PySem.tooLong; rw [decide_eq_false_iff_not,sizeLine_eq]; omega) | (simp [PySem.tooLong]; omega)
 ·rw [if_neg (by omega)]
  by_cases hk:(k == 1 || z.length == 0) = true
  ·rw [if_pos hk]
   exact ⟨.str z,H,I,⟨_,rfl⟩,q z⟩
  ·rw [if_neg hk]
   refine ⟨?_,.str _,H,I.tok _,⟨_,rfl⟩,q _⟩
   show (List.foldl (fun x1 x2 => x1 ++ x2) #[] (List.replicate k.toNat z.cps)).size ≤ sizeLine
   rw [hrl,sizeLine_eq,Nat.mul_comm]
   have:z.cps.size * k.toNat ≤ 1000 * 1000:=hm
   omega
end
end L2
namespace L2
open PySem PySem.Spec PyProof.Rows
section
variable {X:Cx} {pos:Pos}
noncomputable def tPar3 (i j k:Nat) (ta:TA):TS:=fun D σ H => ta σ H fun vs H1 => ∃ v w z,vs = [v,w,z]∧D.nx (((σ.set i (some v)).set j (some w)).set k (some z)) H1
theorem ps_par3 {i j k:Nat} {x y z:Str} {a b c:Expr} {ta:TA} {px py pz pt:Pos} {kt k2 pt2} (hc:X.calm = true) (hN:X.N.Nodup) (hi:X.N[i]? = some x) (hj:X.N[j]? = some y) (hk:X.N[k]? = some z) (hij:i ≠ j) (hik:i ≠ k) (hjk:j ≠ k)
  (hx:X.env.scope.names.lookup x = some .local) (hy:X.env.scope.names.lookup y = some .local) (hz:X.env.scope.names.lookup z = some .local) (ha:PA X [a,b,c] ta)
  (hw:swappedStores [.Tuple [.Name x px,.Name y py,.Name z pz] kt pt] (.Tuple [a,b,c] k2 pt2) X.env = pure (some [x,y,z]))
  (hs:swapsWithSole [.Tuple [.Name x px,.Name y py,.Name z pz] kt pt] (.Tuple [a,b,c] k2 pt2) pos.line X.env = pure false:=by rfl) :
  PS X (.Assign [.Tuple [.Name x px,.Name y py,.Name z pz] kt pt] (.Tuple [a,b,c] k2 pt2) pos) (tPar3 i j k ta):=by
 intro pins s σ H D I h
 rw [exec_Assign_arm]
 refine wpAny_bind (wpAny_standAt ?_)
 rw [hs]
 refine wpAny_bind (wpAny_pure ?_)
 rw [if_neg (by decide)]
 refine wpAny_bind (Tuple_ (thn (ha _ pins s σ H _ I h) fun us s1 ⟨vs,H1,I1,r1,q1⟩ => ?_))
 obtain ⟨v,w,t,e1,q1⟩:=q1
 subst e1
 obtain ⟨u1,u2,u3,rfl,r1,r2,r3⟩:∃ u1 u2 u3,us = [u1,u2,u3]∧RelV v u1∧RelV w u2∧RelV t u3:=by
  cases r1 with
  | cons p q =>
   cases q with
   | cons p' q' =>
    cases q' with
    | cons p3 q3 => cases q3; exact ⟨_,_,_,rfl,p,p',p3⟩
 refine wpAny_newObj_type ?_ (by show 3 ≤ sizeLine; decide)
 have I2:Inv X pins σ H1 { s1 with heap:=s1.heap.push { cls:=.type "tuple",data:=.seq [u1,u2,u3].toArray } }:=I1.kept (t':=s1.toks) fun b o e => Heap.get?_push_of_some _ e
 rw [hw]
 refine wpAny_bind (wpAny_pure ?_)
 show wpAny (model X.prog X.w) X.A (do rule "assign.swapped-stores"; let items ← unpackItems (.ref s1.heap.objs.size) 3 none; assignInOrder [fun v => bindName X.env z v,fun v => bindName X.env y v,fun v => bindName X.env x v] items.reverse; pure Flow.next) _ _ _
 refine wpAny_bind (wpAny_rule (wpAny_bind (unpackItems_tuple (items:=#[u1,u2,u3]) (I.ok.hd hc) (IsTup.new s1.heap _) fun h' hx' => ?_)))
 have I3:=I2.kept (h':=h') (t':=s1.toks) fun b o e => hx' b o (Nat.ne_of_lt (Heap.lt_size e)) e
 show wpAny _ _ (assignInOrder [fun v => bindName X.env z v,fun v => bindName X.env y v,fun v => bindName X.env x v] [u3,u2,u1] >>= fun _ => pure Flow.next) _ _ _
 refine wpAny_bind (assignInOrder_cons (wpAny_bindName (store_ok I3 hN hk (.inl hz) r3 (fun s2 I4 => ?_) (.inr hz))))
 refine assignInOrder_cons (wpAny_bindName (store_ok I4 hN hj (.inl hy) r2 (fun s3 I5 => ?_) (.inr hy)))
 refine assignInOrder_cons (wpAny_bindName (store_ok I5 hN hi (.inl hx) r1 (fun s4 I6 => assignInOrder_nil (wpAny_pure ?_)) (.inr hx)))
 rw [List.set_comm _ _ (Ne.symm hij),List.set_comm _ _ (Ne.symm hik),List.set_comm _ _ (Ne.symm hjk)] at I6
 exact ⟨_,H1,by first | exact I6 | (rw [List.set_comm _ _ hij] at I6; exact I6) | (simpa [List.set_comm _ _ hij,List.set_comm _ _ hik,List.set_comm _ _ hjk] using I6),q1⟩
end
end L2
namespace L2
open PySem PySem.Spec PyProof.Rows
noncomputable def Kn (H:Hp):Nat→V→Prop
 | 0,_ => True
 | n + 1,v => match v with
  | .non => True
  | .bl _ => True
  | .int _ => True
  | .str _ => True
  | .ref a => (∃ xs,H a = some (.lst xs)) ∨ (∃ kvs,H a = some (.dK kvs)) ∨ ∃ xs,H a = some (.tup xs)∧xs.length ≤ 1000∧∀ x ∈ xs,Kn H n x
  | _ => False
noncomputable def KnA (H:Hp) (v:V):Prop:=∀ n,Kn H n v
structure Ext (H H':Hp):Prop where
 tup:∀ a xs,H a = some (.tup xs)→H' a = some (.tup xs)
 lst:∀ a xs,H a = some (.lst xs)→∃ ys,H' a = some (.lst ys)
 dct:∀ a kvs,H a = some (.dK kvs)→H' a = some (.dK kvs)
theorem Ext.trans {H H1 H2:Hp} (a:Ext H H1) (b:Ext H1 H2):Ext H H2:=⟨fun _ _ h => b.tup _ _ (a.tup _ _ h),fun _ _ h => let ⟨_,e⟩:=a.lst _ _ h; b.lst _ _ e,fun _ _ h => b.dct _ _ (a.dct _ _ h)⟩
theorem Same.ext {H H':Hp} (s:Same H H'):Ext H H':=⟨fun _ _ h => s _ _ h,fun _ xs h => ⟨xs,s _ _ h⟩,fun _ _ h => s _ _ h⟩
theorem Kn.ext {H H':Hp} (e:Ext H H'):∀ {n:Nat} {v:V},Kn H n v→Kn H' n v
 | 0,_,_ => True.intro
 | n + 1,v,h => by
  cases v with
  | ref a =>
   rcases h with ⟨xs,h⟩ | ⟨kvs,h⟩ | ⟨xs,h,hl,hx⟩
   ·exact .inl (e.lst _ _ h)
   ·exact .inr (.inl ⟨kvs,e.dct _ _ h⟩)
   ·exact .inr (.inr ⟨xs,e.tup _ _ h,hl,fun x hm => Kn.ext e (hx x hm)⟩)
  | _ => exact h
theorem KnA.ext {H H':Hp} {v:V} (h:KnA H v) (e:Ext H H'):KnA H' v:=fun n => (h n).ext e
theorem Kn.le {H:Hp}:∀ {n m:Nat} {v:V},n ≤ m→Kn H m v→Kn H n v
 | 0,_,_,_,_ => True.intro
 | n + 1,0,_,h,_ => absurd h (by omega)
 | n + 1,m + 1,v,h,k => by
  cases v with
  | ref a =>
   rcases k with ⟨xs,k⟩ | ⟨kvs,k⟩ | ⟨xs,k,hl,hx⟩
   ·exact .inl ⟨xs,k⟩
   ·exact .inr (.inl ⟨kvs,k⟩)
   ·exact .inr (.inr ⟨xs,k,hl,fun x hm => Kn.le (by omega) (hx x hm)⟩)
  | _ => exact k
theorem KnA.int {H:Hp} (i:Int):KnA H (.int i):=fun n => by cases n <;> exact True.intro
theorem KnA.bl {H:Hp} (b:Bool):KnA H (.bl b):=fun n => by cases n <;> exact True.intro
theorem KnA.non {H:Hp}:KnA H .non:=fun n => by cases n <;> exact True.intro
theorem KnA.str {H:Hp} (x:Str):KnA H (.str x):=fun n => by cases n <;> exact True.intro
theorem KnA.lst {H:Hp} {a:Addr} {xs:List V} (h:H a = some (.lst xs)):KnA H (.ref a):=fun n => by cases n with | zero => exact True.intro | succ n => exact .inl ⟨xs,h⟩
theorem KnA.dct {H:Hp} {a:Addr} {kvs:List (Key × V)} (h:H a = some (.dK kvs)):KnA H (.ref a):=fun n => by cases n with | zero => exact True.intro | succ n => exact .inr (.inl ⟨kvs,h⟩)
theorem KnA.tup {H:Hp} {a:Addr} {xs:List V} (h:H a = some (.tup xs)) (hl:xs.length ≤ 1000) (hx:∀ x ∈ xs,KnA H x):KnA H (.ref a):=fun n => by
 cases n with
 | zero => exact True.intro
 | succ n => exact .inr (.inr ⟨xs,h,hl,fun x hm => hx x hm n⟩)
theorem Kn.items {H:Hp} {n:Nat} {a:Addr} {xs:List V} (k:Kn H (n + 1) (.ref a)) (h:H a = some (.tup xs)):xs.length ≤ 1000∧∀ x ∈ xs,Kn H n x:=by
 rcases k with ⟨ys,k⟩ | ⟨kvs,k⟩ | ⟨ys,k,hl,hx⟩
 ·rw [h] at k; cases k
 ·rw [h] at k; cases k
 ·rw [h] at k; cases k; exact ⟨hl,hx⟩
noncomputable def isInt:V→Bool | .int _ => true | _ => false
noncomputable def isBl:V→Bool | .bl _ => true | _ => false
noncomputable def tupOf (H:Hp):V→Option (List V)
 | .ref a => match H a with | some (.tup xs) => some xs | _ => none
 | _ => none
theorem tupOf_of {H:Hp} {a:Addr} {xs:List V} (h:H a = some (.tup xs)):tupOf H (.ref a) = some xs:=by simp [tupOf,h]
theorem of_tupOf {H:Hp} {v:V} {xs:List V} (h:tupOf H v = some xs):∃ a,v = .ref a∧H a = some (.tup xs):=by
 cases v with
 | ref a =>
  unfold tupOf at h
  cases e:H a with
  | none => simp [e] at h
  | some o => cases o <;> simp [e] at h; subst h; exact ⟨a,rfl,e⟩
 | _ => simp [tupOf] at h
section
variable {K:PySem.W.Frag}
theorem kit_same (T:String):PySem.W.kitOne K (.type T) (.type T) = some true:=by unfold PySem.W.kitOne; rw [if_pos (by simp)]
theorem ty_of {H:Hp} {v:V} (k:Kn H 1 v):∃ t,TyOf K H v t∧PySem.W.kitOne K t (.type "int") = some (isInt v || isBl v)∧PySem.W.kitOne K t (.type "bool") = some (isBl v)∧PySem.W.kitOne K t (.type "tuple") = some (tupOf H v).isSome:=by
 cases v with
 | non => exact ⟨_,.non,by kernel_rfl,by kernel_rfl,by kernel_rfl⟩
 | bl b => exact ⟨_,.bl b,by kernel_rfl,by kernel_rfl,by kernel_rfl⟩
 | int i => exact ⟨_,.int i,by kernel_rfl,by kernel_rfl,by kernel_rfl⟩
 | str x => exact ⟨_,.str x,by kernel_rfl,by kernel_rfl,by kernel_rfl⟩
 | ref a =>
  rcases k with ⟨xs,k⟩ | ⟨kvs,k⟩ | ⟨xs,k,hl,hx⟩
  ·refine ⟨_,.lst k,by kernel_rfl,by kernel_rfl,?_⟩
   have:(tupOf H (.ref a)).isSome = false:=by simp [tupOf,k]
   rw [this]; kernel_rfl
  ·refine ⟨_,.dK k,by kernel_rfl,by kernel_rfl,?_⟩
   have:(tupOf H (.ref a)).isSome = false:=by simp [tupOf,k]
   rw [this]; kernel_rfl
  ·refine ⟨_,.tup k,by kernel_rfl,by kernel_rfl,?_⟩
   have:(tupOf H (.ref a)).isSome = true:=by simp [tupOf,k]
   rw [this]; kernel_rfl
 | _ => exact (show False from k).elim
end
noncomputable def numIn (lo hi:Int):V→Bool | .int i => decide (lo ≤ i) && decide (i ≤ hi) | _ => false
noncomputable def rowOk (H:Hp) (v:V):Bool:=match tupOf H v with
 | some xs => decide (1 ≤ xs.length) && decide (xs.length ≤ 6) && xs.all (numIn (-2) 99)
 | none => false
noncomputable def nonneg:V→Bool | .int i => decide (0 ≤ i) | _ => false
noncomputable def lenOf (H:Hp) (v:V):Nat:=((tupOf H v).getD []).length
noncomputable def cellsIn (H:Hp) (v:V):Nat:=(((tupOf H v).getD []).filter nonneg).length
noncomputable def goodM (H:Hp) (v:V):Bool:=match tupOf H v with
 | none => false
 | some rows => decide (1 ≤ rows.length) && decide (rows.length ≤ 4) && rows.all (rowOk H) && rows.all (fun r => decide (lenOf H r = lenOf H (rows.headD .non))) &&
   (decide (1 ≤ (rows.map (cellsIn H)).sum) && decide ((rows.map (cellsIn H)).sum ≤ 10))
theorem Same.tupOf {H H':Hp} (s:Same H H') {v:V} (k:Kn H 1 v):L2.tupOf H' v = L2.tupOf H v:=by
 cases v with
 | ref a =>
  rcases k with ⟨xs,k⟩ | ⟨kvs,k⟩ | ⟨xs,k,_⟩
  ·simp [L2.tupOf,k,s _ _ k]
  ·simp [L2.tupOf,k,s _ _ k]
  ·simp [L2.tupOf,k,s _ _ k]
 | _ => rfl
theorem Same.rowOk {H H':Hp} (s:Same H H') {v:V} (k:Kn H 1 v):L2.rowOk H' v = L2.rowOk H v:=by unfold L2.rowOk; rw [s.tupOf k]
noncomputable def PenAt (H:Hp) (p:Addr):Prop:=∃ x f:Int,H p = some (.lst [.int x,.int f])
structure Stp (p:Addr) (H H':Hp):Prop where
 pen:PenAt H' p
 keep:∀ b o,b ≠ p→H b = some o→H' b = some o
theorem Stp.refl {p:Addr} {H:Hp} (h:PenAt H p):Stp p H H:=⟨h,fun _ _ _ e => e⟩
theorem Stp.trans {p:Addr} {H H1 H2:Hp} (a:Stp p H H1) (b:Stp p H1 H2):Stp p H H2:=⟨b.pen,fun c o h e => b.keep c o h (a.keep c o h e)⟩
theorem Stp.same {p:Addr} {H H1 H2:Hp} (a:Stp p H H1) (s:Same H1 H2):Stp p H H2:=⟨let ⟨x,f,e⟩:=a.pen; ⟨x,f,s _ _ e⟩,fun b o h e => s _ _ (a.keep b o h e)⟩
theorem PenAt.ne {H:Hp} {p b:Addr} {o:HO} (h:PenAt H p) (e:H b = some o) (n:∀ xs,o ≠ .lst xs):b ≠ p:=fun z => by
 obtain ⟨x,f,e2⟩:=h
 rw [z,e2] at e
 cases e
 exact n _ rfl
theorem Stp.ext {p:Addr} {H H':Hp} (h:PenAt H p) (s:Stp p H H'):Ext H H' where
 tup:=fun a xs e => s.keep a _ (h.ne e (by intro z; simp)) e
 lst:=fun a xs e => by
  by_cases ha:a = p
  ·obtain ⟨x,f,e2⟩:=s.pen
   exact ⟨_,by rw [ha]; exact e2⟩
  ·exact ⟨xs,s.keep a _ ha e⟩
 dct:=fun a kvs e => s.keep a _ (h.ne e (by intro z; simp)) e
end L2
namespace L2
open PySem PySem.Spec PyProof.Rows
theorem comp_map {K:PySem.W.Frag} {a l:Addr} {xs:List V} {te:TE} {H0:Hp} {rest:St} {Q:St→Hp→Prop} (f:V→V) (ha:H0 a = some (.tup xs)) (hl:H0 l = none) (hz:xs.length ≤ 1000)
  (turn:∀ x H' Q',x ∈ xs→Same H0 H'→(∀ H2,Same H' H2→Q' (f x) H2)→te (some x :: rest) H' Q') (hQ:∀ σ H',Same H0 H'→H' l = some (.lst (xs.map f))→Q σ H') :
  tForJ (Itt K a) (gName 0) (tBodyC tAll (tEmit l te)) (eC Q) (none :: rest) (upd H0 l (.lst [])):=by
 have s0:Same H0 (upd H0 l (.lst [])):=same_upd hl
 refine for_tup (K:=K) (a:=a) (xs:=xs) (fun i σ H' => (∃ o,σ = o :: rest)∧Same H0 H'∧H' l = some (.lst ((xs.take i).map f))) ⟨⟨_,rfl⟩,s0,by rw [upd_same]; rfl⟩ (fun i σ H' _ h => SqT.of (h.2.1 _ _ ha)) ?_ ?_
 ·rintro i x σ H' hx ⟨⟨o,rfl⟩,hs,hl'⟩
  show tEmit l te (some x :: rest) H' _
  refine turn x H' _ (List.mem_of_getElem? hx) hs fun H2 h2 => ?_
  refine ⟨_,h2 _ _ hl',?_,⟨_,rfl⟩,fun b u e => ?_,?_⟩
  ·rw [List.length_map,List.length_take]
   exact small1000 (by omega)
  ·rw [upd_ne (ne_of_none e hl)]; exact h2 _ _ (hs _ _ e)
  ·rw [upd_same,List.take_succ,hx,List.map_append]; rfl
 ·rintro σ H' ⟨_,hs,hl'⟩
  rw [List.take_of_length_le (Nat.le_refl _)] at hl'
  exact hQ σ H' hs hl'
theorem body_all {tb:TC} {D:Ends} {σ:St} {H:Hp} (h:tb σ H D.nx):tBodyC tAll tb D σ H:=by
 show (if true = true then tb σ H D.nx else D.nx σ H)
 exact iteT h
theorem body_name {i:Nat} {v:V} {tb:TC} {D:Ends} {σ:St} {H:Hp} (h:tb (σ.set i (some v)) H D.nx):gName i v σ H (fun σ2 H2 => tBodyC tAll tb D σ2 H2):=body_all h
theorem iteB {b:Bool} {A B:Prop} (h1:b = true→A) (h2:b = false→B):if b = true then A else B:=by
 cases b with
 | true => exact iteT (h1 rfl)
 | false => exact iteF (h2 rfl)
theorem ite2d {c:Prop} [Decidable c] {A B:Prop} (h1:c→A) (h2:¬ c→B):if decide c = true then A else B:=by
 by_cases h:c
 ·rw [decide_eq_true h]; exact iteT (h1 h)
 ·rw [decide_eq_false h]; exact iteF (h2 h)
end L2
namespace M43
open PySem L2 PyProof.Rows
noncomputable def top (i:Nat):Stmt:=PySem.Challenge.pw_meadshares_k43_lands.main.body.getD i (.Pass ⟨0,0,0,0⟩)
noncomputable abbrev sNumber:Stmt:=top 6
noncomputable abbrev sWithin:Stmt:=top 7
noncomputable abbrev sTuple:Stmt:=top 8
noncomputable abbrev sRow:Stmt:=top 18
noncomputable abbrev sMead:Stmt:=top 19
noncomputable abbrev sPlaces:Stmt:=top 21
structure Txt (mg:Str→Option Value):Prop where
 isinstance:mg "isinstance" = none
 int:mg "int" = none
 bool:mg "bool" = none
 tuple:mg "tuple" = none
 len:mg "len" = none
 all:mg "all" = none
 enumerate:mg "enumerate" = none
 rows:∃ t,mg "MOST_ROWS" = some (.int 4 t)
 cols:∃ t,mg "MOST_COLUMNS" = some (.int 6 t)
 cells:∃ t,mg "MOST_CELLS" = some (.int 10 t)
 worth:∃ t,mg "MOST_WORTH" = some (.int 99 t)
 water:∃ t,mg "WATER" = some (.int (-2) t)
noncomputable def spNumber:Sp:=fun vs H Q _ => ∃ v,vs = [v]∧Kn H 1 v∧Q (.bl (isInt v)) H
noncomputable def spWithin:Sp:=fun vs H Q _ => ∃ v lo hi,vs = [v,.int lo,.int hi]∧Kn H 1 v∧Q (.bl (numIn lo hi v)) H
noncomputable def tupIn (H:Hp) (lo hi:Int) (v:V):Bool:=match tupOf H v with | some xs => decide (lo ≤ xs.length) && decide ((xs.length:Int) ≤ hi) | none => false
noncomputable def spTuple:Sp:=fun vs H Q _ => ∃ v lo hi,vs = [v,.int lo,.int hi]∧Kn H 1 v∧Q (.bl (tupIn H lo hi v)) H
noncomputable def spRow:Sp:=fun vs H Q _ => ∃ v,vs = [v]∧Kn H 2 v∧∀ H',Same H H'→Q (.bl (rowOk H v)) H'
noncomputable def spMead:Sp:=fun vs H Q _ => ∃ v,vs = [v]∧Kn H 3 v∧∀ H',Same H H'→Q (.bl (goodM H v)) H'
section
variable {P:Program} {w:World} {K:PySem.W.Frag} {mg:Str→Option Value} {base:Heap}
theorem scNumber:FnScope ["thing"] ["thing"] (defScope sNumber):=⟨rfl,rfl,rfl,by decide +kernel,rfl,by decide +kernel,by decide +kernel⟩
theorem ok_number {f:Addr} {fd:FuncData} (F:Fun K "is_number" "is_number" sNumber f fd) (T:Txt mg):FnOk P w K mg base CX0 1 f fd ["thing"] spNumber:=by
 refine F.ok scNumber (fun vs H Q E h => ?_) (fun cdv A outer s H vs Q E hr h => ?_)
 ·obtain ⟨v,rfl,_⟩:=h; rfl
 ·obtain ⟨v,rfl,k,q⟩:=h
  refine ⟨_,pss_one (ps_ret (pe_and (pe_callB call_isinst rfl T.isinstance boot_isinstance (pa_cons (pv 0) (pa_cons (pe_bltn (v:=.ty "int") rfl T.int boot_int rfl) pa_nil)))
   (pe_one (pe_not (pe_callB call_isinst rfl T.isinstance boot_isinstance (pa_cons (pv 0) (pa_cons (pe_bltn (v:=.ty "bool") rfl T.bool boot_bool rfl) pa_nil))))))),?_⟩
  obtain ⟨t,ty,k1,k2,_⟩:=ty_of (K:=K) k
  refine ⟨_,rfl,_,"int",t,_,rfl,ty,k1,_,rfl,iteB (fun e => ?_) fun e => ?_⟩
  ·refine ⟨_,rfl,_,"bool",t,_,rfl,ty,k2,_,rfl,?_⟩
   have:(!isBl v) = isInt v:=by cases v <;> first | rfl | cases e
   rw [this]; exact q
  ·have:isInt v = false:=(Bool.or_eq_false_iff.mp e).1
   rw [this] at q; exact q
theorem scWithin:FnScope ["thing","least","most"] ["thing","least","most"] (defScope sWithin):=⟨rfl,rfl,rfl,by decide +kernel,rfl,by decide +kernel,by decide +kernel⟩
theorem ok_within {f g:Addr} {fd gd:FuncData} (F:Fun K "is_number_within" "is_number_within" sWithin f fd) (T:Txt mg) (G:Fun K "is_number" "is_number" sNumber g gd) (b:Binds K gd ["thing"] []) (m:mg "is_number" = some (.ref g)):FnOk P w K mg base CX0 2 f fd ["thing","least","most"] spWithin:=by
 have GN:FnOk P w K mg base CX0 1 g gd ["thing"] spNumber:=ok_number G T
 refine F.ok scWithin (fun vs H Q E h => ?_) (fun cdv A outer s H vs Q E hr h => ?_)
 ·obtain ⟨v,lo,hi,rfl,_⟩:=h; rfl
 ·obtain ⟨v,lo,hi,rfl,k,q⟩:=h
  refine ⟨_,pss_one (ps_ret (pe_and (pe_call GN hr rfl m G.kp b .nil pass0 (pa_cons (pv 0) pa_nil)) (pe_one (pe_chain op_le op_le (pv 1) (pv 0) (pv 2))))),?_⟩
  refine ⟨_,rfl,v,rfl,k,_,rfl,iteB (fun e => ?_) fun e => ?_⟩
  ·cases v with
   | int i =>
    refine ⟨_,rfl,_,rfl,_,_,rfl,rfl,_,rfl,ite2d (fun h1 => ?_) fun h1 => ?_⟩
    ·refine ⟨_,rfl,_,_,rfl,rfl,?_⟩
     have:numIn lo hi (.int i) = decide (i ≤ hi):=by simp [numIn,h1]
     rw [this] at q; exact q
    ·have:numIn lo hi (.int i) = false:=by simp [numIn,h1]
     rw [this] at q; exact q
   | _ => cases e
  ·have:numIn lo hi v = false:=by cases v <;> first | rfl | cases e
   rw [this] at q; exact q
theorem scTuple:FnScope ["thing","least","most"] ["thing","least","most"] (defScope sTuple):=⟨rfl,rfl,rfl,by decide +kernel,rfl,by decide +kernel,by decide +kernel⟩
theorem ok_tuple {f:Addr} {fd:FuncData} (F:Fun K "is_tuple_within" "is_tuple_within" sTuple f fd) (T:Txt mg):FnOk P w K mg base CX0 1 f fd ["thing","least","most"] spTuple:=by
 refine F.ok scTuple (fun vs H Q E h => ?_) (fun cdv A outer s H vs Q E hr h => ?_)
 ·obtain ⟨v,lo,hi,rfl,_⟩:=h; rfl
 ·obtain ⟨v,lo,hi,rfl,k,q⟩:=h
  refine ⟨_,pss_one (ps_ret (pe_and (pe_callB call_isinst rfl T.isinstance boot_isinstance (pa_cons (pv 0) (pa_cons (pe_bltn (v:=.ty "tuple") rfl T.tuple boot_tuple rfl) pa_nil)))
   (pe_one (pe_chain op_le op_le (pv 1) (pe_callB call_len_seq rfl T.len PySem.boot_len (pa_cons (pv 0) pa_nil)) (pv 2))))),?_⟩
  obtain ⟨t,ty,_,_,k3⟩:=ty_of (K:=K) k
  refine ⟨_,rfl,_,"tuple",t,_,rfl,ty,k3,_,rfl,iteB (fun e => ?_) fun e => ?_⟩
  ·obtain ⟨xs,ex⟩:=Option.isSome_iff_exists.mp e
   obtain ⟨a,rfl,ha⟩:=of_tupOf ex
   refine ⟨_,rfl,_,rfl,a,xs,rfl,.inr (SqT.of ha),_,_,rfl,rfl,_,rfl,ite2d (fun h1 => ?_) fun h1 => ?_⟩
   ·refine ⟨_,rfl,_,_,rfl,rfl,?_⟩
    have:tupIn H lo hi (.ref a) = decide ((xs.length:Int) ≤ hi):=by simp [tupIn,ex,h1]
    rw [this] at q; exact q
   ·have:tupIn H lo hi (.ref a) = false:=by simp [tupIn,ex,h1]
    rw [this] at q; exact q
  ·have:tupIn H lo hi v = false:=by
    unfold tupIn
    cases z:tupOf H v with
    | none => rfl
    | some xs => rw [z] at e; cases e
   rw [this] at q; exact q
theorem scRow:FnScope ["thing"] ["thing"] (defScope sRow):=⟨rfl,rfl,rfl,by decide +kernel,rfl,by decide +kernel,by decide +kernel⟩
theorem ok_row {f g1 g2:Addr} {fd gd1 gd2:FuncData} (F:Fun K "is_row" "is_row" sRow f fd) (T:Txt mg) (b1:Binds K gd1 ["thing","least","most"] []) (m1:mg "is_tuple_within" = some (.ref g1)) (p1:PySem.W.keepIn K (.ref g1) = true) (G1:FnOk P w K mg base CX0 1 g1 gd1 ["thing","least","most"] spTuple)
  (b2:Binds K gd2 ["thing","least","most"] []) (m2:mg "is_number_within" = some (.ref g2)) (p2:PySem.W.keepIn K (.ref g2) = true) (G2:FnOk P w K mg base CX0 2 g2 gd2 ["thing","least","most"] spWithin):FnOk P w K mg base CX0 3 f fd ["thing"] spRow:=by
 obtain ⟨t1,mCol⟩:=T.cols
 obtain ⟨t2,mWa⟩:=T.water
 obtain ⟨t3,mWo⟩:=T.worth
 refine F.ok scRow (fun vs H Q E h => ?_) (fun cdv A outer s H vs Q E hr h => ?_)
 ·obtain ⟨v,rfl,_⟩:=h; rfl
 ·obtain ⟨v,rfl,k,q⟩:=h
  refine ⟨_,pss_cons (ps_if (pt_not (pt_val (pe_call G1 (hr.mono (by decide)) rfl m1 p1 b1 .nil pass0 (pa_cons (pv 0) (pa_cons pe_int (pa_cons (pe_glob (v:=.int 6) rfl mCol ⟨_,rfl⟩) pa_nil)))))) (pss_one (ps_ret pe_bl)) pss_nil)
   (pss_one (ps_ret (pe_callB (call_all rfl) rfl T.all boot_all (pa_cons (pe_comp1 (defScope sRow).names ["thing"] ["mark"] [] rfl (pi_tup (pv 0)) rfl rfl rfl (by decide +kernel)
    (fun Z => pg_name (i:=0) (show (["mark"]:List Str).Nodup by decide +kernel) rfl (Or.inl rfl)) (fun Z => pts_nil)
    (fun Z => pe_call G2 hr rfl m2 p2 b2 .nil pass0 (pa_cons (pv 0) (pa_cons (pe_glob (v:=.int (-2)) rfl mWa ⟨_,rfl⟩) (pa_cons (pe_glob (v:=.int 99) rfl mWo ⟨_,rfl⟩) pa_nil))))) pa_nil)))),?_⟩
  refine ⟨_,rfl,v,1,6,rfl,k.le (by decide),_,rfl,iteB (fun e => ?_) fun e => ?_⟩
  ·have:rowOk H v = false:=by
    rw [Bool.not_eq_true'] at e
    unfold tupIn at e; unfold rowOk
    cases z:tupOf H v with
    | none => rfl
    | some xs =>
     rw [z] at e
     dsimp only at e ⊢
     rw [Bool.and_eq_false_iff] at e ⊢
     left
     rw [Bool.and_eq_false_iff]
     rcases e with e | e
     ·left; rw [decide_eq_false_iff_not] at e ⊢; omega
     ·right; rw [decide_eq_false_iff_not] at e ⊢; omega
   have q':=q H (Same.refl H)
   rw [this] at q'; exact q'
  ·have e':tupIn H 1 6 v = true:=by simpa using e
   unfold tupIn at e'
   cases z:tupOf H v with
   | none => rw [z] at e'; cases e'
   | some xs =>
    rw [z] at e'
    obtain ⟨a,rfl,ha⟩:=of_tupOf z
    obtain ⟨hz,hk⟩:=k.items ha
    refine ⟨_,rfl,a,rfl,⟨xs,SqT.of ha⟩,fun Z l hl => ?_⟩
    refine comp_map (fun x => .bl (numIn (-2) 99 x)) ha hl hz (fun x H' Q' hm hs hq => ?_) fun σ H' hs hl' => ?_
    ·exact ⟨_,rfl,x, -2,99,rfl,(hk x hm).ext hs.ext,hq _ (Same.refl _)⟩
    ·refine ⟨l,xs.map (numIn (-2) 99),rfl,SqL.of (by rw [hl',List.map_map]; rfl),?_⟩
     have:rowOk H (.ref a) = (xs.map (numIn (-2) 99)).all id:=by
      unfold rowOk; rw [z]
      dsimp only at e' ⊢
      rw [Bool.and_eq_true,decide_eq_true_eq,decide_eq_true_eq] at e'
      rw [decide_eq_true (show 1 ≤ xs.length by omega),decide_eq_true (show xs.length ≤ 6 by omega),List.all_map]
      rfl
     have q':=q H' hs
     rw [this] at q'; exact q'
end
end M43
namespace L2
open PySem PySem.Spec PyProof.Rows
noncomputable def rowCells (at':Nat) (xs:List V):List (Int × Int):=xs.zipIdx.filterMap fun p => if nonneg p.1 then some ((at':Int),(p.2:Int)) else none
noncomputable def allCells (H:Hp) (rows:List V):List (Int × Int):=(rows.zipIdx.map fun p => rowCells p.2 ((tupOf H p.1).getD [])).flatten
theorem zipIdx_take {α:Type} (xs:List α) (i:Nat) (x:α) (h:xs[i]? = some x):(xs.take (i + 1)).zipIdx = (xs.take i).zipIdx ++ [(x,i)]:=by
 have hlt:i < xs.length:=(List.getElem?_eq_some_iff.mp h).1
 rw [List.take_succ,h,List.zipIdx_append]
 simp
 omega
theorem rowCells_succ (at':Nat) (xs:List V) (i:Nat) (x:V) (h:xs[i]? = some x):rowCells at' (xs.take (i + 1)) = rowCells at' (xs.take i) ++ (if nonneg x then [((at':Int),(i:Int))] else []):=by
 unfold rowCells
 rw [zipIdx_take xs i x h,List.filterMap_append]
 congr 1
 by_cases hn:nonneg x = true
 ·simp [hn]
 ·simp [hn]
theorem allCells_succ (H:Hp) (rows:List V) (i:Nat) (r:V) (h:rows[i]? = some r):allCells H (rows.take (i + 1)) = allCells H (rows.take i) ++ rowCells i ((tupOf H r).getD []):=by
 unfold allCells
 rw [zipIdx_take rows i r h,List.map_append,List.flatten_append]
 simp
theorem rowCells_length (at':Nat) (xs:List V):(rowCells at' xs).length = (xs.filter nonneg).length:=by
 unfold rowCells
 have go:∀ (xs:List V) (n:Nat),((xs.zipIdx n).filterMap fun p => if nonneg p.1 then some ((at':Int),(p.2:Int)) else none).length = (xs.filter nonneg).length:=by
  intro xs
  induction xs with
  | nil => intro n; rfl
  | cons x xs ih =>
   intro n
   rw [List.zipIdx_cons]
   by_cases hn:nonneg x = true
   ·rw [List.filterMap_cons_some (b:=((at':Int),(n:Int))) (by simp [hn]),List.filter_cons_of_pos hn,List.length_cons,List.length_cons,ih]
   ·rw [List.filterMap_cons_none (by simp [hn]),List.filter_cons_of_neg hn,ih]
 exact go xs 0
theorem allCells_length (H:Hp) (rows:List V):(allCells H rows).length = (rows.map (cellsIn H)).sum:=by
 unfold allCells
 rw [List.length_flatten,List.map_map]
 have go:∀ (rows:List V) (n:Nat),((rows.zipIdx n).map (List.length ∘ fun p => rowCells p.2 ((tupOf H p.1).getD []))).sum = (rows.map (cellsIn H)).sum:=by
  intro rows
  induction rows with
  | nil => intro n; rfl
  | cons r rows ih =>
   intro n
   rw [List.zipIdx_cons,List.map_cons,List.sum_cons,List.map_cons,List.sum_cons,ih]
   congr 1
   exact rowCells_length _ _
 exact go rows 0
noncomputable def PlAt (H:Hp) (ps:List Addr) (cs:List (Int × Int)):Prop:=Paired (fun p c => H p = some (.tup [.int c.1,.int c.2])) ps cs
theorem PlAt.same {H H':Hp} {ps:List Addr} {cs:List (Int × Int)} (h:PlAt H ps cs) (s:Same H H'):PlAt H' ps cs:=Paired.mapP h fun _ _ e => s _ _ e
theorem PlAt.snoc {H:Hp} {ps:List Addr} {cs:List (Int × Int)} {p:Addr} {c:Int × Int} (h:PlAt H ps cs) (e:H p = some (.tup [.int c.1,.int c.2])):PlAt H (ps ++ [p]) (cs ++ [c]):=Paired.snoc h e
noncomputable def RowsAt (H:Hp) (rows:List V):Prop:=rows.length ≤ 4∧∀ r ∈ rows,∃ b xs,r = .ref b∧H b = some (.tup xs)∧xs.length ≤ 6∧∀ x ∈ xs,∃ i,x = .int i
theorem RowsAt.same {H H':Hp} {rows:List V} (h:RowsAt H rows) (s:Same H H'):RowsAt H' rows:=⟨h.1,fun r hr => let ⟨b,xs,e,hb,hl,hx⟩:=h.2 r hr; ⟨b,xs,e,s _ _ hb,hl,hx⟩⟩
theorem comp_cells {K:PySem.W.Frag} {a l:Addr} {rows:List V} {H0:Hp} {tt2:TT} {Q:St→Hp→Prop} (ha:H0 a = some (.tup rows)) (hl:H0 l = none) (hr:RowsAt H0 rows)
  (htt:∀ (at' k:Nat) (r:V) (i:Int) H' (Q':Bool→Hp→Prop),Q' (nonneg (.int i)) H'→tt2 [some (.int at'),some r,some (.int k),some (.int i)] H' Q')
  (hQ:∀ σ H' ps,Same H0 H'→H' l = some (.lst (ps.map V.ref))→PlAt H' ps (allCells H0 rows)→Q σ H') :
  tForJ (Ite fun H xs => SqT K H a xs) (gTup K 2 (gCons (gName 0) (gCons (gName 1) gNil))) (tBodyC tAll (tNest (iEnumT K (tCons (tVar 1) tNil)) (gTup K 2 (gCons (gName 2) (gCons (gName 3) gNil))) tt2 (tEmit l (tTup (tCons (tVar 0) (tCons (tVar 2) tNil)))))) (eC Q) [none,none,none,none] (upd H0 l (.lst [])):=by
 have s0:Same H0 (upd H0 l (.lst [])):=same_upd hl
 refine for_enum (xs:=rows) (fun i σ H' => σ.length = 4∧Same H0 H'∧∃ ps,H' l = some (.lst (ps.map V.ref))∧PlAt H' ps (allCells H0 (rows.take i))∧ps.length ≤ 6 * i) ⟨rfl,s0,[],by rw [upd_same]; rfl,.nil,Nat.zero_le _⟩ (fun i σ H' _ h => SqT.of (h.2.1 _ _ ha)) ?_ ?_
 ·rintro i r p σ H' hx ⟨hσ,hs,ps,hl',hP,hn⟩ hp
  obtain ⟨b,xs,rfl,hb,hx6,hxi⟩:=hr.2 r (List.mem_of_getElem? hx)
  have hi4:i < 4:=Nat.lt_of_lt_of_le (List.getElem?_eq_some_iff.mp hx).1 hr.1
  have s1:Same H' (upd H' p (.tup [.int i,.ref b])):=same_upd hp
  have hb1:tupOf H0 (.ref b) = some xs:=tupOf_of hb
  match σ,hσ with
  | [x0,x1,x2,x3],_ =>
  refine ⟨p,_,rfl,SqT.of upd_same,rfl,_,_,rfl,_,_,rfl,rfl,?_⟩
  refine body_all ?_
  refine ⟨_,rfl,b,xs,rfl,SqT.of (s1 _ _ (hs _ _ hb)),?_⟩
  refine for_enum (xs:=xs) (fun j σ H2 => (∃ y2 y3,σ = [some (.int i),some (.ref b),y2,y3])∧Same H0 H2∧∃ ps,H2 l = some (.lst (ps.map V.ref))∧PlAt H2 ps (allCells H0 (rows.take i) ++ rowCells i (xs.take j))∧ps.length ≤ 6 * i + j) ?_ (fun j σ H2 _ h => SqT.of (h.2.1 _ _ hb)) ?_ ?_
  ·exact ⟨⟨x2,x3,rfl⟩,hs.trans s1,ps,s1 _ _ hl',by simpa [rowCells] using hP.same s1,hn⟩
  ·rintro j x p2 σ H2 hxj ⟨⟨y2,y3,rfl⟩,hs2,ps2,hl2,hP2,hn2⟩ hp2
   obtain ⟨z,rfl⟩:=hxi x (List.mem_of_getElem? hxj)
   have hj6:j < 6:=Nat.lt_of_lt_of_le (List.getElem?_eq_some_iff.mp hxj).1 hx6
   have s2:Same H2 (upd H2 p2 (.tup [.int j,.int z])):=same_upd hp2
   refine ⟨p2,_,rfl,SqT.of upd_same,rfl,_,_,rfl,_,_,rfl,rfl,?_⟩
   refine htt i j (.ref b) z _ _ (iteB (fun e => ?_) fun e => ?_)
   ·refine ⟨_,rfl,_,rfl,(by show 2 ≤ sizeLine; decide),fun q hq => ?_⟩
    have s3:=same_upd (o:=.tup [.int i,.int j]) hq
    have hlq:l ≠ q:=ne_of_none (s2 _ _ hl2) hq
    refine ⟨_,s3 _ _ (s2 _ _ hl2),small1000 (by rw [List.length_map]; omega),⟨_,_,rfl⟩,fun b' u e' => ?_,ps2 ++ [q],?_,?_,?_⟩
    ·rw [upd_ne (ne_of_none e' hl)]; exact s3 _ _ (s2 _ _ (hs2 _ _ e'))
    ·rw [upd_same,List.map_append]; rfl
    ·have hne:∀ b' u,(upd (upd H2 p2 (.tup [.int j,.int z])) q (.tup [.int i,.int j])) b' = some (.tup u)→(upd (upd (upd H2 p2 (.tup [.int j,.int z])) q (.tup [.int i,.int j])) l (.lst (ps2.map V.ref ++ [.ref q]))) b' = some (.tup u):=fun b' u e' => by
      rw [upd_ne (fun z' => ?_)]; exact e'
      rw [z',upd_ne hlq,s2 _ _ hl2] at e'; cases e'
     rw [rowCells_succ i xs j _ hxj,if_pos e,← List.append_assoc]
     exact PlAt.snoc (Paired.mapP ((hP2.same s2).same s3) fun _ _ e' => hne _ _ e') (hne _ _ upd_same)
    ·rw [List.length_append]; show ps2.length + 1 ≤ _; omega
   ·refine ⟨⟨_,_,rfl⟩,hs2.trans s2,ps2,s2 _ _ hl2,?_,by omega⟩
    rw [rowCells_succ i xs j _ hxj,if_neg (by rw [e]; decide),List.append_nil]
    exact hP2.same s2
  ·rintro σ H2 ⟨⟨y2,y3,rfl⟩,hs2,ps2,hl2,hP2,hn2⟩
   refine ⟨rfl,hs2,ps2,hl2,?_,by omega⟩
   rw [List.take_of_length_le (Nat.le_refl _)] at hP2
   rw [allCells_succ H0 rows i _ hx,hb1]
   exact hP2
 ·rintro σ H' ⟨_,hs,ps,hl',hP,_⟩
  rw [List.take_of_length_le (Nat.le_refl _)] at hP
  exact hQ σ H' ps hs hl' hP
end L2
namespace M43
open PySem L2 PyProof.Rows
noncomputable def spPlaces:Sp:=fun vs H Q _ => ∃ a rows,vs = [.ref a]∧H a = some (.tup rows)∧RowsAt H rows∧∀ H' l ps,Same H H'→H' l = some (.lst (ps.map V.ref))→PlAt H' ps (allCells H rows)→Q (.ref l) H'
section
variable {P:Program} {w:World} {K:PySem.W.Frag} {mg:Str→Option Value} {base:Heap}
theorem scPlaces:FnScope ["mead"] ["mead"] (defScope sPlaces):=⟨rfl,rfl,rfl,by decide +kernel,rfl,by decide +kernel,by decide +kernel⟩
theorem nd4:(["at","row","k","mark"]:List Str).Nodup:=by decide +kernel
theorem ok_places {f:Addr} {fd:FuncData} (F:Fun K "places_of_cells" "places_of_cells" sPlaces f fd) (T:Txt mg):FnOk P w K mg base CX0 1 f fd ["mead"] spPlaces:=by
 refine F.ok scPlaces (fun vs H Q E h => ?_) (fun cdv A outer s H vs Q E hr h => ?_)
 ·obtain ⟨a,rows,rfl,_⟩:=h; rfl
 ·obtain ⟨a,rows,rfl,ha,hR,q⟩:=h
  refine ⟨_,pss_one (ps_ret (pe_comp2 (defScope sPlaces).names ["mead"] ["at","row","k","mark"] [] rfl (pi_enumT rfl rfl T.enumerate (pa_cons (pv 0) pa_nil)) rfl rfl rfl (by decide +kernel)
   (fun Z => pg_tup rfl (pgs_cons (pg_name (i:=0) nd4 rfl (Or.inl rfl)) (pgs_cons (pg_name (i:=1) nd4 rfl (Or.inl rfl)) pgs_nil))) (fun Z => pts_nil)
   (fun Z => pi_enumT rfl rfl T.enumerate (pa_cons (pv 1) pa_nil)) (fun Z => pg_tup rfl (pgs_cons (pg_name (i:=2) nd4 rfl (Or.inl rfl)) (pgs_cons (pg_name (i:=3) nd4 rfl (Or.inl rfl)) pgs_nil)))
   (fun Z => pts_one (pt_cmpR op_ge (pv 3) pe_int (nomark _))) (fun Z => pe_tup (pa_cons (pv 0) (pa_cons (pv 2) pa_nil))))),?_⟩
  refine ⟨_,rfl,a,rows,rfl,SqT.of ha,fun Z l hl => ?_⟩
  exact comp_cells ha hl hR (fun at' k r i H' Q' hq => ⟨_,rfl,_,_,rfl,rfl,_,rfl,hq⟩) fun σ H' ps hs hl' hP => q H' l ps hs hl' hP
theorem scMead:FnScope ["thing"] ["thing"] (defScope sMead):=⟨rfl,rfl,rfl,by decide +kernel,rfl,by decide +kernel,by decide +kernel⟩
theorem rowOk_num {H:Hp} {v:V} (h:rowOk H v = true):∃ b xs,v = .ref b∧H b = some (.tup xs)∧xs.length ≤ 6∧∀ x ∈ xs,∃ i,x = .int i:=by
 unfold rowOk at h
 cases e:tupOf H v with
 | none => rw [e] at h; cases h
 | some xs =>
  rw [e] at h
  obtain ⟨b,rfl,hb⟩:=of_tupOf e
  simp only [Bool.and_eq_true,decide_eq_true_eq,List.all_eq_true] at h
  refine ⟨b,xs,rfl,hb,h.1.2,fun x hx => ?_⟩
  have:=h.2 x hx
  cases x <;> first | exact ⟨_,rfl⟩ | cases this
theorem ok_mead {f g1 g2 g3:Addr} {fd gd1 gd2 gd3:FuncData} (F:Fun K "is_mead" "is_mead" sMead f fd) (T:Txt mg) (b1:Binds K gd1 ["thing","least","most"] []) (m1:mg "is_tuple_within" = some (.ref g1)) (p1:PySem.W.keepIn K (.ref g1) = true) (G1:FnOk P w K mg base CX0 1 g1 gd1 ["thing","least","most"] spTuple)
  (b2:Binds K gd2 ["thing"] []) (m2:mg "is_row" = some (.ref g2)) (p2:PySem.W.keepIn K (.ref g2) = true) (G2:FnOk P w K mg base CX0 3 g2 gd2 ["thing"] spRow)
  (b3:Binds K gd3 ["mead"] []) (m3:mg "places_of_cells" = some (.ref g3)) (p3:PySem.W.keepIn K (.ref g3) = true) (G3:FnOk P w K mg base CX0 1 g3 gd3 ["mead"] spPlaces):FnOk P w K mg base CX0 4 f fd ["thing"] spMead:=by
 obtain ⟨t1,mRow⟩:=T.rows
 obtain ⟨t2,mCel⟩:=T.cells
 refine F.ok scMead (fun vs H Q E h => ?_) (fun cdv A outer s H vs Q E hr h => ?_)
 ·obtain ⟨v,rfl,_⟩:=h; rfl
 ·obtain ⟨v,rfl,k,q⟩:=h
  refine ⟨_,pss_cons (ps_if (pt_not (pt_val (pe_call G1 (hr.mono (by decide)) rfl m1 p1 b1 .nil pass0 (pa_cons (pv 0) (pa_cons pe_int (pa_cons (pe_glob (v:=.int 4) rfl mRow ⟨_,rfl⟩) pa_nil)))))) (pss_one (ps_ret pe_bl)) pss_nil)
   (pss_cons (ps_if (pt_not (pt_val (pe_callB (call_all rfl) rfl T.all boot_all (pa_cons (pe_comp1 (defScope sMead).names ["thing"] ["row"] [] rfl (pi_tup (pv 0)) rfl rfl rfl (by decide +kernel)
    (fun Z => pg_name (i:=0) (show (["row"]:List Str).Nodup by decide +kernel) rfl (Or.inl rfl)) (fun Z => pts_nil) (fun Z => pe_call G2 hr rfl m2 p2 b2 .nil pass0 (pa_cons (pv 0) pa_nil))) pa_nil)))) (pss_one (ps_ret pe_bl)) pss_nil)
   (pss_cons (ps_if (pt_not (pt_val (pe_callB (call_all rfl) rfl T.all boot_all (pa_cons (pe_comp1 (defScope sMead).names ["thing"] ["row"] [("thing",0)] rfl (pi_tup (pv 0)) rfl rfl rfl (by decide +kernel)
    (fun Z => pg_name (i:=0) (show (["row","thing"]:List Str).Nodup by decide +kernel) rfl (Or.inl rfl)) (fun Z => pts_nil)
    (fun Z => pe_cmpR op_eq (pe_callB call_len_seq rfl T.len PySem.boot_len (pa_cons (pv 0) pa_nil)) (pe_callB call_len_seq rfl T.len PySem.boot_len (pa_cons (pe_ix ix_tup (pv 1) pe_int (fun _ _ => rfl)) pa_nil)) (nomark _))) pa_nil)))) (pss_one (ps_ret pe_bl)) pss_nil)
   (pss_one (ps_ret (pe_chain op_le op_le pe_int (pe_callB call_len_seq rfl T.len PySem.boot_len (pa_cons (pe_call G3 (hr.mono (by decide)) rfl m3 p3 b3 .nil pass0 (pa_cons (pv 0) pa_nil)) pa_nil)) (pe_glob (v:=.int 10) rfl mCel ⟨_,rfl⟩)))))),?_⟩
  refine ⟨_,rfl,v,1,4,rfl,k.le (by decide),_,rfl,iteB (fun e => ?_) fun e => ?_⟩
  ·have:goodM H v = false:=by
    rw [Bool.not_eq_true'] at e
    unfold tupIn at e; unfold goodM
    cases z:tupOf H v with
    | none => rfl
    | some xs =>
     rw [z] at e
     dsimp only at e ⊢
     rw [Bool.and_eq_false_iff] at e
     simp only [Bool.and_eq_false_iff]
     left; left; left
     rcases e with e | e
     ·left; rw [decide_eq_false_iff_not] at e ⊢; omega
     ·right; rw [decide_eq_false_iff_not] at e ⊢; omega
   have q':=q H (Same.refl H)
   rw [this] at q'; exact q'
  ·have e':tupIn H 1 4 v = true:=by simpa using e
   unfold tupIn at e'
   cases z:tupOf H v with
   | none => rw [z] at e'; cases e'
   | some rows =>
    rw [z] at e'
    dsimp only at e'
    rw [Bool.and_eq_true,decide_eq_true_eq,decide_eq_true_eq] at e'
    obtain ⟨a,rfl,ha⟩:=of_tupOf z
    obtain ⟨hz,hk⟩:=k.items ha
    have g0:goodM H (.ref a) = (rows.all (rowOk H) && rows.all (fun r => decide (lenOf H r = lenOf H (rows.headD .non))) && (decide (1 ≤ (rows.map (cellsIn H)).sum) && decide ((rows.map (cellsIn H)).sum ≤ 10))):=by
     unfold goodM; rw [z]
     dsimp only
     rw [decide_eq_true (show 1 ≤ rows.length by omega),decide_eq_true (show rows.length ≤ 4 by omega)]
     rfl
    -- all rows
    refine ⟨_,rfl,a,rfl,⟨rows,SqT.of ha⟩,fun Z l hl => ?_⟩
    refine comp_map (fun x => .bl (rowOk H x)) ha hl hz (fun x H' Q' hm hs hq => ?_) fun σ H1 hs1 hl1 => ?_
    ·refine ⟨_,rfl,x,rfl,(hk x hm).ext hs.ext,fun H2 h2 => ?_⟩
     rw [hs.rowOk ((hk x hm).le (by decide))]
     exact hq _ h2
    ·refine ⟨l,rows.map (rowOk H),rfl,SqL.of (by rw [hl1,List.map_map]; rfl),_,rfl,?_⟩
     have ea:(rows.map (rowOk H)).all id = rows.all (rowOk H):=by rw [List.all_map]; rfl
     rw [ea]
     refine iteB (fun e2 => ?_) fun e2 => ?_
     ·have q':=q H1 hs1
      have e3:rows.all (rowOk H) = false:=by simpa using e2
      rw [g0,e3] at q'; exact q'
     ·have e3:rows.all (rowOk H) = true:=by simpa using e2
      rw [e3] at g0
      have hr2:∀ r ∈ rows,∃ b xs,r = .ref b∧H b = some (.tup xs)∧xs.length ≤ 6∧∀ x ∈ xs,∃ i,x = .int i:=fun r hr' => rowOk_num (List.all_eq_true.mp e3 r hr')
      have hR:RowsAt H rows:=⟨by omega,hr2⟩
      have hne:rows ≠ []:=fun z => by rw [z] at e'; simp at e'
      obtain ⟨r0,rs,er⟩:=List.exists_cons_of_ne_nil hne
      have ha1:=hs1 _ _ ha
      refine ⟨_,rfl,a,rfl,⟨rows,SqT.of ha1⟩,fun Z2 l2 hl2 => ?_⟩
      refine comp_map (rest:=[some (.ref a)]) (fun x => .bl (decide (lenOf H x = lenOf H (rows.headD .non)))) ha1 hl2 hz (fun x H' Q' hm hs hq => ?_) fun σ H2 hs2 hl2' => ?_
      ·obtain ⟨b,xs,rfl,hb,_⟩:=hr2 x hm
       obtain ⟨b0,xs0,e0,hb0,_⟩:=hr2 r0 (by rw [er]; exact List.mem_cons_self)
       have hsH:=hs1.trans hs
       refine ⟨_,rfl,b,xs,rfl,.inr (SqT.of (hsH _ _ hb)),_,rfl,a,rows,0,r0,rfl,rfl,SqT.of (hsH _ _ ha),?_,b0,xs0,by rw [e0],.inr (SqT.of (hsH _ _ hb0)),rfl,?_⟩
       ·rw [er]; exact atI_nat (j:=0) rfl
       ·have:decide (V.int (xs.length:Int) = V.int (xs0.length:Int)) = decide (lenOf H (.ref b) = lenOf H (rows.headD .non)):=by
         rw [er]
         show _ = decide (lenOf H (.ref b) = lenOf H r0)
         rw [e0]
         unfold lenOf
         rw [tupOf_of hb,tupOf_of hb0]
         show _ = decide (xs.length = xs0.length)
         by_cases h:xs.length = xs0.length
         ·rw [decide_eq_true h,h]; simp
         ·rw [decide_eq_false h,decide_eq_false]
          intro z; apply h
          have:=V.int.inj z
          omega
        rw [this]
        exact hq _ (Same.refl _)
      ·have hs12:=hs1.trans hs2
       refine ⟨l2,rows.map (fun r => decide (lenOf H r = lenOf H (rows.headD .non))),rfl,SqL.of (by rw [hl2',List.map_map]; rfl),_,rfl,?_⟩
       have ea:(rows.map (fun r => decide (lenOf H r = lenOf H (rows.headD .non)))).all id = rows.all (fun r => decide (lenOf H r = lenOf H (rows.headD .non))):=by rw [List.all_map]; rfl
       rw [ea]
       refine iteB (fun e4 => ?_) fun e4 => ?_
       ·have q':=q H2 hs12
        have e5:rows.all (fun r => decide (lenOf H r = lenOf H (rows.headD .non))) = false:=by simpa using e4
        rw [g0,e5] at q'; exact q'
       ·have e5:rows.all (fun r => decide (lenOf H r = lenOf H (rows.headD .non))) = true:=by simpa using e4
        rw [e5] at g0
        refine ⟨_,rfl,a,rows,rfl,hs12 _ _ ha,hR.same hs12,fun H3 l3 ps hs3 hl3 hP => ?_⟩
        have hlen:ps.length = (rows.map (cellsIn H)).sum:=by
         rw [← allCells_length]
         have e6:allCells H2 rows = allCells H rows:=by
          unfold allCells
          congr 1
          refine List.map_congr_left fun p hp => ?_
          have hm:p.1 ∈ rows:=by
           obtain ⟨i,hi,e⟩:=List.getElem_of_mem hp
           rw [List.getElem_zipIdx] at e
           rw [← e]; exact List.getElem_mem _
          rw [hs12.tupOf ((hk _ hm).le (by decide))]
         rw [← e6]
         exact Paired.length hP
        refine ⟨l3,ps.map V.ref,rfl,.inl (SqL.of hl3),_,_,rfl,rfl,_,rfl,ite2d (fun h1 => ?_) fun h1 => ?_⟩
        ·refine ⟨_,_,rfl,rfl,?_⟩
         have q':=q H3 (hs12.trans hs3)
         rw [g0,decide_eq_true (show 1 ≤ (rows.map (cellsIn H)).sum by rw [← hlen]; rw [List.length_map] at h1; omega)] at q'
         have:decide (((ps.map V.ref).length:Int) ≤ 10) = decide ((rows.map (cellsIn H)).sum ≤ 10):=by
          rw [List.length_map,hlen]
          by_cases h:(rows.map (cellsIn H)).sum ≤ 10
          ·rw [decide_eq_true h,decide_eq_true]; omega
          ·rw [decide_eq_false h,decide_eq_false]; omega
         rw [← this] at q'; exact q'
        ·have q':=q H3 (hs12.trans hs3)
         rw [g0,decide_eq_false (show ¬ 1 ≤ (rows.map (cellsIn H)).sum by rw [← hlen]; rw [List.length_map] at h1; omega)] at q'
         exact q'
end
end M43
namespace M43
open PySem L2 PyProof.Rows
noncomputable abbrev sCell:Stmt:=top 39
noncomputable abbrev sPen:Stmt:=top 40
noncomputable abbrev sDraw:Stmt:=top 41
noncomputable def spCell (K:PySem.W.Frag):Sp:=fun vs H Q _ => ∃ a ns k,vs = [.ref a,.int k]∧SqL K H a ((ns:List Int).map V.int)∧0 ≤ k∧∀ i,Q (.int i) H
noncomputable def spPen:Sp:=fun vs H Q _ => ∃ i:Int,vs = [.int i]∧∀ p H',H p = none→Same H H'→PenAt H' p→Q (.ref p) H'
noncomputable def spDraw:Sp:=fun vs H Q _ => ∃ p m,vs = [.ref p,.int m]∧PenAt H p∧0 < m∧m < 1000000∧∀ d H',0 ≤ d→d < m→Stp p H H'→Q (.int d) H'
section
variable {P:Program} {w:World} {K:PySem.W.Frag} {mg:Str→Option Value} {base:Heap}
theorem scCell:FnScope ["_law_script","_law_k"] ["_law_script","_law_k"] (defScope sCell):=⟨rfl,rfl,rfl,by decide +kernel,rfl,by decide +kernel,by decide +kernel⟩
theorem ok_cell {f:Addr} {fd:FuncData} (F:Fun K "_law_cell" "_law_cell" sCell f fd) (T:Txt mg):FnOk P w K mg base CX0 1 f fd ["_law_script","_law_k"] (spCell K):=by
 refine F.ok scCell (fun vs H Q E h => ?_) (fun cdv A outer s H vs Q E hr h => ?_)
 ·obtain ⟨a,ns,k,rfl,_⟩:=h; rfl
 ·obtain ⟨a,ns,k,rfl,ha,hk,q⟩:=h
  refine ⟨_,pss_cons (ps_if (pt_cmpR op_lt (pv 1) (pe_callB call_len_seq rfl T.len PySem.boot_len (pa_cons (pv 0) pa_nil)) (nomark _)) (pss_one (ps_ret (pe_ix ix_list (pv 0) (pv 1) (fun _ _ => rfl)))) pss_nil) (pss_one (ps_ret pe_int)),?_⟩
  refine ⟨_,rfl,_,rfl,a,_,rfl,.inl ha,_,_,rfl,rfl,_,rfl,ite2d (fun h1 => ?_) fun h1 => q 0⟩
  rw [List.length_map] at h1
  obtain ⟨n,rfl⟩:=Int.eq_ofNat_of_zero_le hk
  have hlt:n < ns.length:=by omega
  exact ⟨_,rfl,_,rfl,a,_,n,.int ns[n],rfl,rfl,ha,atI_nat (by rw [List.getElem?_map]; simp [hlt]),q _⟩
theorem scPen:FnScope ["_law_cell_here"] ["_law_cell_here"] (defScope sPen):=⟨rfl,rfl,rfl,by decide +kernel,rfl,by decide +kernel,by decide +kernel⟩
theorem ok_pen {f:Addr} {fd:FuncData} (F:Fun K "_law_pen" "_law_pen" sPen f fd) (T:Txt mg):FnOk P w K mg base CX0 1 f fd ["_law_cell_here"] spPen:=by
 refine F.ok scPen (fun vs H Q E h => ?_) (fun cdv A outer s H vs Q E hr h => ?_)
 ·obtain ⟨i,rfl,_⟩:=h; rfl
 ·obtain ⟨i,rfl,q⟩:=h
  refine ⟨_,pss_one (ps_ret (pe_lst (pa_cons (pv 0) (pa_cons (pe_callTy call_int1 rfl T.int boot_int (pa_cons (pe_cmpR op_ge (pv 0) (pe_op op_pow pe_int pe_int) (nomark _)) pa_nil)) pa_nil)))),?_⟩
  refine ⟨_,rfl,_,rfl,_,_,rfl,rfl,⟨by decide,by decide,by decide⟩,_,_,rfl,rfl,.inr ⟨_,rfl,?_⟩⟩
  refine ⟨by show 2 ≤ sizeLine; decide,fun l hl => ?_⟩
  exact q l _ hl (same_upd hl) ⟨_,_,upd_same⟩
theorem scDraw:FnScope ["_law_pen_here","_law_many","_law_digit"] ["_law_pen_here","_law_many"] (defScope sDraw):=⟨rfl,rfl,rfl,by decide +kernel,rfl,by decide +kernel,by decide +kernel⟩
theorem ok_draw {f:Addr} {fd:FuncData} (F:Fun K "_law_draw" "_law_draw" sDraw f fd) (T:Txt mg):FnOk P w K mg base CX0 1 f fd ["_law_pen_here","_law_many"] spDraw:=by
 refine F.ok scDraw (fun vs H Q E h => ?_) (fun cdv A outer s H vs Q E hr h => ?_)
 ·obtain ⟨p,m,rfl,_⟩:=h; rfl
 ·obtain ⟨p,m,rfl,⟨x,f1,hp⟩,h0,h1,q⟩:=h
  refine ⟨_,pss_cons (ps_if (pt_cmpR op_eq (pe_ix ix_list (pv 0) pe_int (fun _ _ => rfl)) pe_int (nomark _))
    (pss_cons (ps_set (i:=2) scDraw.nd rfl (Or.inl rfl) (pe_op op_mod (pe_ix ix_list (pv 0) pe_int (fun _ _ => rfl)) (pv 1)))
    (pss_cons (ps_asg (pe_op op_fdiv (pe_ix ix_list (pv 0) pe_int (fun _ _ => rfl)) (pv 1)) (pg_sub (pv 0) pe_int set_list))
    (pss_one (ps_ret (pv 2))))) pss_nil)
   (pss_cons (ps_asg (pe_op op_mod (pe_op op_add (pe_op op_mul (pe_op op_mod (pe_ix ix_list (pv 0) pe_int (fun _ _ => rfl)) pe_int) pe_int) pe_int) pe_int) (pg_sub (pv 0) pe_int set_list))
   (pss_one (ps_ret (pe_op op_mod (pe_op op_fdiv (pe_op op_mod (pe_op op_add (pe_op op_mul (pe_ix ix_list (pv 0) pe_int (fun _ _ => rfl)) (pe_ix ix_list (pv 0) pe_int (fun _ _ => rfl))) (pe_op op_mul pe_int (pe_ix ix_list (pv 0) pe_int (fun _ _ => rfl)))) pe_int) pe_int) (pv 1))))),?_⟩
  refine ⟨_,rfl,p,_,1,_,rfl,rfl,SqL.of hp,atI_nat (j:=1) rfl,rfl,_,rfl,ite2d (fun _ => ?_) fun _ => ?_⟩
  ·refine ⟨_,rfl,p,_,0,_,rfl,rfl,SqL.of hp,atI_nat (j:=0) rfl,_,rfl,_,_,rfl,rfl,h0,?_⟩
   refine ⟨_,rfl,p,_,0,_,rfl,rfl,SqL.of hp,atI_nat (j:=0) rfl,_,rfl,_,_,rfl,rfl,⟨h0,by omega⟩,?_⟩
   refine ⟨_,rfl,p,_,0,0,rfl,rfl,hp,rfl,?_⟩
   refine ⟨_,rfl,?_⟩
   exact q _ _ (Int.emod_nonneg _ (by omega)) (Int.emod_lt_of_pos _ h0) ⟨⟨_,_,upd_same⟩,fun b o hb e => by rw [upd_ne hb]; exact e⟩
  ·have hm:∀ y:Int,0 ≤ y % 2147483629∧y % 2147483629 < 2147483629:=fun y => ⟨Int.emod_nonneg _ (by omega),Int.emod_lt_of_pos _ (by omega)⟩
   have b1:=hm x
   have b2:=hm (x % 2147483629 * 48271 + 11)
   refine ⟨_,rfl,p,_,0,_,rfl,rfl,SqL.of hp,atI_nat (j:=0) rfl,_,_,rfl,rfl,(by show (0:Int) < 2147483629; decide),_,_,rfl,rfl,.inl ⟨by omega,by omega⟩,_,_,rfl,rfl,_,_,rfl,rfl,(by show (0:Int) < 2147483629; decide),?_⟩
   refine ⟨_,rfl,p,_,0,0,rfl,rfl,hp,rfl,?_⟩
   refine ⟨_,rfl,p,_,0,_,rfl,rfl,SqL.of upd_same,atI_nat (j:=0) rfl,_,rfl,p,_,0,_,rfl,rfl,SqL.of upd_same,atI_nat (j:=0) rfl,_,_,rfl,rfl,.inl ⟨by omega,by omega⟩,?_⟩
   refine ⟨_,rfl,p,_,0,_,rfl,rfl,SqL.of upd_same,atI_nat (j:=0) rfl,_,_,rfl,rfl,.inl ⟨by decide,by decide⟩,_,_,rfl,rfl,_,_,rfl,rfl,(by show (0:Int) < 2147483647; decide),_,_,rfl,rfl,⟨by decide,by decide⟩,_,rfl,_,_,rfl,rfl,h0,?_⟩
   exact q _ _ (Int.emod_nonneg _ (by omega)) (Int.emod_lt_of_pos _ h0) ⟨⟨_,_,upd_same⟩,fun b o hb e => by rw [upd_ne hb]; exact e⟩
end
end M43
namespace L2
open PySem PySem.Spec PyProof.Rows
section
variable {X:Cx} {pins:List (Addr × Obj)} {σ:St} {H:Hp} {s:Shared}
theorem turn_enumL {P:Program} {w:World} {K:PySem.W.Frag} {es:List Expr} {x1} {pos:Pos} (e it a:Addr) (hei:e ≠ it) :
  Turn P w K (.Tuple es x1 pos) (Ite fun H xs => SqL K H a xs) [e,it] e (fun i h => (∃ old,IsEnum h e it i old)∧h.IsListIter it a i∧a ≠ it∧a ≠ e) where
 mem:=by simp
 obj:=fun i h st b hb => by
  obtain ⟨⟨old,he⟩,⟨o,e1,c,d⟩,_⟩:=st
  rcases List.mem_cons.mp hb with z | z
  ·subst z; exact ⟨_,he,fun v z => by cases z⟩
  ·have z':=List.mem_singleton.mp z
   subst z'; exact ⟨o,e1,fun v z => by rw [d] at z; cases z⟩
 keep:=fun i h h' st k => ⟨let ⟨old,he⟩:=st.1; ⟨old,k e (by simp) _ he⟩,st.2.1.at fun o q => k it (by simp) o q,st.2.2⟩
 item:=by
  intro X hP hw hK hc i pins s σ H E I hf st hg
  subst hP hw hK
  obtain ⟨⟨old,he⟩,hit,hai,hae⟩:=st
  obtain ⟨xs,x,hq,hx⟩:=hg
  obtain ⟨its,rv,p,hz⟩:=I.list hq
  obtain ⟨u,hu,ru⟩:=rv.get hx
  have hlt:i < its.toArray.size:=by
   rw [List.size_toArray]; exact (List.getElem?_eq_some_iff.mp hu).1
  refine wpAny_pyNext_enum_itemD (Draws.list (A:=X.A.in1) (by simp [I.ok.hd hc]) it a hai its.toArray) he ⟨hit,p.isList⟩ hlt hei (by simp [hei,Ne.symm hae]) fun v h' tk hv ho hst' hT hsz hk => ?_
  have hv':v = u:=by
   have e1:its[i]? = some v:=by simpa using hv
   rw [hu] at e1; exact (Option.some.inj e1).symm
  subst hv'
  refine ⟨_,rfl,wpAny_letOwnedTupleGo_enum (s:={ s with heap:=h',toks:=tk + 1 }) ho fun h2 he2 hs2 => ?_⟩
  have helt:e < s.heap.objs.size:=Heap.lt_size he
  have hilt:it < s.heap.objs.size:=by obtain ⟨_,q,_⟩:=hit; exact Heap.lt_size q
  have hTe:s.heap.objs.size ≠ e:=Nat.ne_of_gt helt
  have hn:H s.heap.objs.size = none:=I.hok.fresh (Nat.le_refl _)
  have kp:∀ b o,b ∉ [e,it]→s.heap.get? b = some o→h2.get? b = some o:=fun b o hb q => by
   have hbe:b ≠ e:=fun z => hb (by simp [z])
   have hbi:b ≠ it:=fun z => hb (by simp [z])
   exact (hs2.2 b hbe).trans (hk b o hbe hbi q)
  have hT2:h2.get? s.heap.objs.size = some { cls:=.type "tuple",data:=.seq #[.int i tk,v] }:=(hs2.2 _ hTe).trans hT
  have I2:Inv X pins σ (upd H s.heap.objs.size (.tup [.int i,x])) { s with heap:=h2,toks:=tk + 1 }:=I.turnLaid (fp:=[e,it]) kp hf (Nat.le_refl _) ⟨by show 2 ≤ sizeLine; rw [sizeLine_eq]; decide,[.int i tk,v],.cons ⟨_,rfl⟩ (.cons ru .nil),⟨_,hT2,rfl,_,rfl⟩⟩
  refine ⟨.ref s.heap.objs.size,_,I2,rfl,⟨s.heap.objs.size,x,rfl,hn,rfl,fun ys hy => by rw [I.list_inj hy hq]; exact hx⟩,⟨⟨_,by simpa using he2⟩,hst'.1.at fun o q => (hs2.2 it hei.symm).trans q,hai,hae⟩,fun b hb => ?_⟩
  have hbz:b ≠ s.heap.objs.size:=by
   rcases List.mem_cons.mp hb with z | z
   ·rw [z]; exact Nat.ne_of_lt helt
   ·rw [List.mem_singleton.mp z]; exact Nat.ne_of_lt hilt
  rw [upd_ne hbz]; exact (hf b hb).1
 done:=by
  intro X hP hw hK hc i pins s σ H E I hf st hg
  subst hP hw hK
  obtain ⟨⟨old,he⟩,hit,hai,hae⟩:=st
  obtain ⟨xs,hq,hx⟩:=hg
  obtain ⟨its,rv,p,hz⟩:=I.list hq
  have hl:=rv.length
  have hi:its.toArray.size = i:=by rw [List.size_toArray,← hl,hx]
  refine wpAny_pyNext_enum_endD (Draws.list (A:=X.A.in1) (by simp [I.ok.hd hc]) it a hai its.toArray) he (by rw [hi]; exact ⟨hit,p.isList⟩) fun h' hs' => ⟨rfl,?_⟩
  exact I.turned (it:=it) (t':=s.toks) (fun b o hb q => hs' b o hb q) (hf it (by simp)).1 (hf it (by simp)).2.1 (hf it (by simp)).2.2.2.1 (hf it (by simp)).2.2.2.2.1 (hf it (by simp)).2.2.2.2.2
 self:=fun _ _ _ _ _ st h => let ⟨old,he⟩:=st.1; wpAny_pyIter_enum he h
noncomputable def iEnumL (K:PySem.W.Frag) (ta:TA):TI:=fun σ H R => ta σ H fun vs H1 => ∃ a xs,vs = [.ref a]∧SqL K H1 a xs∧R (Ite fun H xs => SqL K H a xs) H1
theorem pi_enumL {a:Expr} {ta:TA} {p pos:Pos} {es:List Expr} {x1} {tpos:Pos} (hc:X.calm = true) (hg:Gl X "enumerate") (hm:X.mg "enumerate" = none) (ha:PA X [a] ta) (hs:starEach [a] X.env = [(false,eval a X.env)]:=by rfl) :
  PI X (.Tuple es x1 tpos) (.Call (.Name "enumerate" p) [a] [] pos) (iEnumL X.K ta):=by
 intro pins s σ H R I h
 refine Call_ (ld_blt I hg hm boot_enumerate (PyProof.Rows.callWith_type1 (thn (ha pos pins s σ H _ I h) fun us s1 ⟨vs,H1,I1,r1,q1⟩ => ?_) hs rfl))
 obtain ⟨b,xs,e,hq,q⟩:=q1
 subst e
 obtain ⟨u,rfl,rx⟩:=vals1 r1
 cases rx
 obtain ⟨its,rv,pt,hz⟩:=I1.list hq
 have hblt:b < s1.heap.objs.size:=by obtain ⟨o,ho,_⟩:=pt.isList; exact Heap.lt_size ho
 refine call_enumerate_list pt.isList fun h' he hit hsz hk => ?_
 refine wpAny_pyIter_enum (s:={ s1 with heap:=h' }) he ?_
 have I2:Inv X pins σ H1 { s1 with heap:=h' }:=I1.kept (t':=s1.toks) hk
 refine ⟨s1.heap.objs.size + 1,[s1.heap.objs.size + 1,s1.heap.objs.size],_,_,H1,rfl,I2,turn_enumL _ _ b (Nat.succ_ne_self _),⟨⟨_,he⟩,hit,Nat.ne_of_lt hblt,Nat.ne_of_lt (Nat.lt_succ_of_lt hblt)⟩,fun c hc' => ?_,q⟩
 have hge:s1.heap.objs.size ≤ c:=by
  rcases List.mem_cons.mp hc' with z | z
  ·rw [z]; exact Nat.le_succ _
  ·rw [List.mem_singleton.mp z]; exact Nat.le_refl _
 exact I1.fpOk hge (I1.hok.fresh hge)
end
theorem FnOk.never {P:Program} {w:World} {K:PySem.W.Frag} {mg:Str→Option Value} {base:Heap} {CX:CXT} {k:Nat} {f:Addr} {fd:FuncData} {ps:List Str}:FnOk P w K mg base CX k f fd ps (fun _ _ _ _ => False) :=
 ⟨fun _ _ _ _ h => h.elim,fun _ _ _ _ _ _ _ _ _ _ _ _ _ h => h.elim⟩
section
variable {X:Cx} {es:List Expr} {te:TE} {t:TA}
theorem pa_c {c j pos} (he:PE X (.Constant c j pos) te) (hr:PA X es t):PA X (.Constant c j pos :: es) (tCons te t):=pa_cons he hr rfl
theorem pa_v {x pos} (he:PE X (.Name x pos) te) (hr:PA X es t):PA X (.Name x pos :: es) (tCons te t):=pa_cons he hr rfl
theorem pa_b {a o b pos} (he:PE X (.BinOp a o b pos) te) (hr:PA X es t):PA X (.BinOp a o b pos :: es) (tCons te t):=pa_cons he hr rfl
theorem pa_u {o b pos} (he:PE X (.UnaryOp o b pos) te) (hr:PA X es t):PA X (.UnaryOp o b pos :: es) (tCons te t):=pa_cons he hr rfl
theorem pa_k {f a k pos} (he:PE X (.Call f a k pos) te) (hr:PA X es t):PA X (.Call f a k pos :: es) (tCons te t):=pa_cons he hr rfl
theorem pa_t {a k pos} (he:PE X (.Tuple a k pos) te) (hr:PA X es t):PA X (.Tuple a k pos :: es) (tCons te t):=pa_cons he hr rfl
theorem pa_l {a pos} (he:PE X (.List a pos) te) (hr:PA X es t):PA X (.List a pos :: es) (tCons te t):=pa_cons he hr rfl
theorem pa_s {a b pos} (he:PE X (.Subscript a b pos) te) (hr:PA X es t):PA X (.Subscript a b pos :: es) (tCons te t):=pa_cons he hr rfl
theorem pa_i {a b c pos} (he:PE X (.IfExp a b c pos) te) (hr:PA X es t):PA X (.IfExp a b c pos :: es) (tCons te t):=pa_cons he hr rfl
theorem pa_m {a b c pos} (he:PE X (.Compare a b c pos) te) (hr:PA X es t):PA X (.Compare a b c pos :: es) (tCons te t):=pa_cons he hr rfl
theorem pa_lc {a b c pos} (he:PE X (.ListComp a b c pos) te) (hr:PA X es t):PA X (.ListComp a b c pos :: es) (tCons te t):=pa_cons he hr rfl
end
@[irreducible] def PAq (X:Cx) (es:List Expr) (t:TA):Prop:=PA X es t
section
variable {X:Cx} {es:List Expr} {te:TE} {t:TA}
theorem pa_q (h:PAq X es t):PA X es t:=by unfold PAq at h; exact h
theorem pq_nil:PAq X [] tNil:=by unfold PAq; exact pa_nil
theorem pq_s {x j pos} (hr:PAq X es t):PAq X (.Constant (.str x) j pos :: es) (tCons (tC (.str x)) t):=by unfold PAq at *; exact pa_c pe_str hr
theorem pq_i {i j pos} (hr:PAq X es t):PAq X (.Constant (.int i) j pos :: es) (tCons (tC (.int i)) t):=by unfold PAq at *; exact pa_c pe_int hr
theorem pq_tf {b j pos} (hr:PAq X es t):PAq X (.Constant (.bool b) j pos :: es) (tCons (tC (.bl b)) t):=by unfold PAq at *; exact pa_c pe_bl hr
theorem pq_n {j pos} (hr:PAq X es t):PAq X (.Constant .none j pos :: es) (tCons (tC .non) t):=by unfold PAq at *; exact pa_c pe_non hr
theorem pq_b {a o b pos} (he:PE X (.BinOp a o b pos) te) (hr:PAq X es t):PAq X (.BinOp a o b pos :: es) (tCons te t):=by unfold PAq at *; exact pa_b he hr
theorem pq_u {o b pos} (he:PE X (.UnaryOp o b pos) te) (hr:PAq X es t):PAq X (.UnaryOp o b pos :: es) (tCons te t):=by unfold PAq at *; exact pa_u he hr
end
@[irreducible] def PSsq (X:Cx) (st:List Stmt) (t:TS):Prop:=PSs X st t
section
variable {X:Cx} {es:List Expr} {t:TA} {tb:TE} {b:Expr} {p1 p2 p3 pos:Pos}
theorem pssq_of {st:List Stmt} {t:TS} (h:PSs X st t):PSsq X st t:=by unfold PSsq; exact h
theorem ps_ifq {c:Expr} {a b:List Stmt} {tc:TT} {t u:TS} (hc:PT X c tc) (ha:PSsq X a t) (hb:PSsq X b u):PS X (.If c a b pos) (tIfS tc t u):=by unfold PSsq at ha hb; exact ps_if hc ha hb
theorem retq (h:PAq X es t) (hb:PE X b tb) (hs:PlainIx b):PSsq X [.Return (some (.Subscript (.List es p1) b p2)) p3] (tRet (tOp (rIxL X.K) (tLst t) tb)):=by unfold PSsq; exact pss_one (ps_ret (pe_ix ix_list (pe_lst (pa_q h)) hb hs))
end
@[irreducible] def PEq (X:Cx) (e:Expr) (t:TE):Prop:=PE X e t
@[irreducible] def PSq (X:Cx) (st:Stmt) (t:TS):Prop:=PS X st t
section
variable {X:Cx} {es:List Expr} {t:TA} {te tb:TE} {b e:Expr} {p1 p2 p3 pos:Pos}
theorem pss_consq {st:Stmt} {rest:List Stmt} {t u:TS} (h1:PSq X st t) (h2:PSs X rest u):PSs X (st :: rest) (tSeq t u):=by unfold PSq at h1; exact pss_cons h1 h2
end
section
variable {X:Cx} {es:List Expr} {t:TA} {te:TE} {e:Expr} {p1 p3:Pos}
theorem tupq {k} (h:PAq X es t):PEq X (.Tuple es k p1) (tTup t):=by unfold PEq; exact pe_tup (pa_q h)
theorem lstq (h:PAq X es t):PEq X (.List es p1) (tLst t):=by unfold PEq; exact pe_lst (pa_q h)
theorem pq_tq {a k pos} (he:PEq X (.Tuple a k pos) te) (hr:PAq X es t):PAq X (.Tuple a k pos :: es) (tCons te t):=by unfold PEq at he; unfold PAq at *; exact pa_t he hr
theorem pq_lq {a pos} (he:PEq X (.List a pos) te) (hr:PAq X es t):PAq X (.List a pos :: es) (tCons te t):=by unfold PEq at he; unfold PAq at *; exact pa_l he hr
theorem retE (h:PEq X e te):PSsq X [.Return (some e) p3] (tRet te):=by unfold PEq at h; unfold PSsq; exact pss_one (ps_ret h)
theorem pss_cons2q {st:Stmt} {rest:List Stmt} {t u:TS} (h1:PS X st t) (h2:PSsq X rest u):PSs X (st :: rest) (tSeq t u):=by unfold PSsq at h2; exact pss_cons h1 h2
end
end L2
namespace L2
open PySem PySem.Spec PyProof.Rows
theorem Ext.updL {H:Hp} {l:Addr} {xs ys:List V} (h:H l = some (.lst xs)):Ext H (upd H l (.lst ys)) where
 tup:=fun a zs e => by rw [upd_ne (ne_of e h (by simp))]; exact e
 lst:=fun a zs e => by
  by_cases ha:a = l
  ·exact ⟨ys,by rw [ha,upd_same]⟩
  ·exact ⟨zs,by rw [upd_ne ha]; exact e⟩
 dct:=fun a zs e => by rw [upd_ne (ne_of e h (by simp))]; exact e
theorem Stp.updL {p l:Addr} {H H1:Hp} {ys:List V} (s:Stp p H H1) (hl:H l = none) (hp:PenAt H p):Stp p H (upd H1 l (.lst ys)):=by
 obtain ⟨x,f,e⟩:=hp
 have hne:p ≠ l:=ne_of_none e hl
 obtain ⟨x',f',e'⟩:=s.pen
 exact ⟨⟨x',f',by rw [upd_ne hne]; exact e'⟩,fun b o hb h => by rw [upd_ne (ne_of_none h hl)]; exact s.keep b o hb h⟩
theorem comp_pairs {K:PySem.W.Frag} {S:Hp→List V→Prop} {l:Addr} {xs:List V} {H0:Hp} {Q:St→Hp→Prop} (hS:∀ H',Same H0 H'→S H' xs) (hl:H0 l = none) (hz:xs.length ≤ 1000)
  (hQ:∀ σ H' (ps:List Addr),Same H0 H'→H' l = some (.lst (ps.map V.ref))→ps.length = xs.length→(∀ (j:Nat) (q:Addr) (v:V),ps[j]? = some q→xs[j]? = some v→H' q = some (.tup [.int j,v]))→Q σ H') :
  tForJ (Ite S) (gTup K 2 (gCons (gName 0) (gCons (gName 1) gNil))) (tBodyC tAll (tEmit l (tTup (tCons (tVar 0) (tCons (tVar 1) tNil))))) (eC Q) [none,none] (upd H0 l (.lst [])):=by
 refine for_enum (xs:=xs) (fun i σ H' => σ.length = 2∧Same H0 H'∧∃ ps:List Addr,H' l = some (.lst (ps.map V.ref))∧ps.length = i∧∀ (j:Nat) (q:Addr) (v:V),ps[j]? = some q→xs[j]? = some v→H' q = some (.tup [.int j,v]))
  ⟨rfl,same_upd hl,[],by rw [upd_same]; rfl,rfl,fun j q v h => by simp at h⟩ (fun i σ H' _ h => hS H' h.2.1) ?_ ?_
 ·rintro i x p σ H' hx ⟨hσ,hs,ps,hl',hn,hP⟩ hp
  have hi:i < xs.length:=(List.getElem?_eq_some_iff.mp hx).1
  match σ,hσ with
  | [x0,x1],_ =>
  have s1:Same H' (upd H' p (.tup [.int i,x])):=same_upd hp
  refine ⟨p,_,rfl,SqT.of upd_same,rfl,_,_,rfl,_,_,rfl,rfl,?_⟩
  refine body_all ?_
  refine ⟨_,rfl,_,rfl,(by show 2 ≤ sizeLine; decide),fun q hq => ?_⟩
  have s2:=same_upd (o:=.tup [.int i,x]) hq
  have hlq:l ≠ q:=ne_of_none (s1 _ _ hl') hq
  refine ⟨_,s2 _ _ (s1 _ _ hl'),small1000 (by rw [List.length_map]; omega),rfl,fun b u e => ?_,ps ++ [q],?_,?_,fun j q' v hj hv => ?_⟩
  ·rw [upd_ne (ne_of_none e hl)]; exact s2 _ _ (s1 _ _ (hs _ _ e))
  ·rw [upd_same,List.map_append]; rfl
  ·rw [List.length_append,hn]; rfl
  ·have key:∀ b u,(upd (upd H' p (.tup [.int i,x])) q (.tup [.int i,x])) b = some (.tup u)→(upd (upd (upd H' p (.tup [.int i,x])) q (.tup [.int i,x])) l (.lst (ps.map V.ref ++ [.ref q]))) b = some (.tup u):=fun b u e => by
    rw [upd_ne (fun z => ?_)]; exact e
    rw [z,upd_ne hlq,s1 _ _ hl'] at e; cases e
   by_cases hji:j < ps.length
   ·rw [List.getElem?_append_left hji] at hj
    exact key _ _ (s2 _ _ (s1 _ _ (hP j q' v hj hv)))
   ·rw [List.getElem?_append_right (by omega)] at hj
    have:j - ps.length = 0:=by
     by_cases h0:j - ps.length = 0
     ·exact h0
     ·rw [List.getElem?_eq_none (by simp; omega)] at hj; cases hj
    have hji2:j = i:=by omega
    subst hji2
    rw [this] at hj
    cases hj
    rw [hx] at hv; cases hv
    exact key _ _ upd_same
 ·rintro σ H' ⟨_,hs,ps,hl',hn,hP⟩
  exact hQ σ H' ps hs hl' hn hP
end L2
namespace Grd
noncomputable abbrev Grid:=List (List Int)
noncomputable def pos (n:Int):Bool:=decide (0 ≤ n)
noncomputable def road (n:Int):Bool:=decide (n = -1)
noncomputable def rowF (f:Int→Bool) (r:Int) (xs:List Int):List (Int × Int):=xs.zipIdx.filterMap fun q => if f q.1 then some (r,(q.2:Int)) else none
noncomputable def gridF (f:Int→Bool) (g:Grid):List (Int × Int):=(g.zipIdx.map fun p => rowF f p.2 p.1).flatten
noncomputable def atG (g:Grid) (c:Int × Int):Int:=(g.getD c.1.toNat []).getD c.2.toNat 0
noncomputable def cntR (xs:List Int):Nat:=(xs.filter pos).length
noncomputable def cntG (g:Grid):Nat:=(g.map cntR).sum
structure Good (g:Grid) (w:Nat):Prop where
 h1:1 ≤ g.length
 h4:g.length ≤ 4
 w1:1 ≤ w
 w5:w ≤ 5
 len:∀ xs ∈ g,xs.length = w
 num:∀ xs ∈ g,∀ n ∈ xs, -2 ≤ n∧n ≤ 99
 c1:1 ≤ cntG g
 c10:cntG g ≤ 10
theorem zipIdx_take {α:Type} (xs:List α) (i:Nat) (x:α) (h:xs[i]? = some x):(xs.take (i + 1)).zipIdx = (xs.take i).zipIdx ++ [(x,i)]:=by
 have hlt:i < xs.length:=(List.getElem?_eq_some_iff.mp h).1
 rw [List.take_succ,h,List.zipIdx_append]
 simp
 omega
theorem rowF_succ (f:Int→Bool) (r:Int) (xs:List Int) (i:Nat) (x:Int) (h:xs[i]? = some x):rowF f r (xs.take (i + 1)) = rowF f r (xs.take i) ++ if f x then [(r,(i:Int))] else []:=by
 unfold rowF
 rw [zipIdx_take xs i x h,List.filterMap_append]
 congr 1
 cases hf:f x <;> simp [hf]
theorem gridF_succ (f:Int→Bool) (g:Grid) (i:Nat) (xs:List Int) (h:g[i]? = some xs):gridF f (g.take (i + 1)) = gridF f (g.take i) ++ rowF f i xs:=by
 unfold gridF
 rw [zipIdx_take g i xs h,List.map_append,List.flatten_append]
 simp
theorem cntR_succ (xs:List Int) (x:Int):cntR (xs ++ [x]) = cntR xs + if pos x then 1 else 0:=by
 unfold cntR
 rw [List.filter_append,List.length_append]
 cases hp:pos x <;> simp [hp]
theorem cntG_succ (g:Grid) (xs:List Int):cntG (g ++ [xs]) = cntG g + cntR xs:=by
 unfold cntG
 rw [List.map_append,List.sum_append]
 simp
theorem mem_rowF {f:Int→Bool} {r:Int} {xs:List Int} {c:Int × Int}:c ∈ rowF f r xs ↔ c.1 = r∧∃ j x,c.2 = (j:Nat)∧xs[j]? = some x∧f x = true:=by
 unfold rowF
 rw [List.mem_filterMap]
 constructor
 ·rintro ⟨⟨x,j⟩,hm,e⟩
  have hx:=List.mem_zipIdx_iff_getElem?.mp hm
  cases hf:f x with
  | true =>
   simp only [hf,if_true,Option.some.injEq] at e
   subst e
   exact ⟨rfl,j,x,rfl,hx,hf⟩
  | false => simp [hf] at e
 ·rintro ⟨e1,j,x,e2,hx,hf⟩
  refine ⟨(x,j),List.mem_zipIdx_iff_getElem?.mpr hx,?_⟩
  simp only [hf,if_true,Option.some.injEq]
  exact Prod.ext e1.symm e2.symm
theorem mem_gridF {f:Int→Bool} {g:Grid} {c:Int × Int}:c ∈ gridF f g ↔ ∃ (i j:Nat) (xs:List Int) (x:Int),c = ((i:Int),(j:Int))∧g[i]? = some xs∧xs[j]? = some x∧f x = true:=by
 unfold gridF
 rw [List.mem_flatten]
 constructor
 ·rintro ⟨l,hl,hc⟩
  obtain ⟨⟨xs,i⟩,hm,rfl⟩:=List.mem_map.mp hl
  obtain ⟨e1,j,x,e2,hx,hf⟩:=mem_rowF.mp hc
  exact ⟨i,j,xs,x,Prod.ext e1 e2,List.mem_zipIdx_iff_getElem?.mp hm,hx,hf⟩
 ·rintro ⟨i,j,xs,x,rfl,hg,hx,hf⟩
  exact ⟨rowF f i xs,List.mem_map.mpr ⟨(xs,i),List.mem_zipIdx_iff_getElem?.mpr hg,rfl⟩,mem_rowF.mpr ⟨rfl,j,x,rfl,hx,hf⟩⟩
theorem atG_of {g:Grid} {i j:Nat} {xs:List Int} {x:Int} (h1:g[i]? = some xs) (h2:xs[j]? = some x):atG g ((i:Int),(j:Int)) = x:=by
 unfold atG
 simp [List.getD_eq_getElem?_getD,h1,h2]
theorem row_vals {r:Int}:∀ (pre xs:List Int) (v:Int × Int→Int),(∀ j x,xs[j]? = some x→v (r,((pre.length + j:Nat):Int)) = x)→(((xs.zipIdx pre.length).filterMap fun q => if pos q.1 then some (r,(q.2:Int)) else none).map v) = xs.filter pos
 | _,[],_,_ => by simp
 | pre,x :: xs,v,h => by
  have ih:=row_vals (r:=r) (pre ++ [x]) xs v fun j y hy => by
   have:=h (j + 1) y (by simpa using hy)
   rw [List.length_append]
   have e:pre.length + [x].length + j = pre.length + (j + 1):=by simp; omega
   rw [e]; exact this
  have h0:=h 0 x rfl
  rw [List.length_append] at ih
  rw [List.zipIdx_cons]
  have ih':(((xs.zipIdx (pre.length + 1)).filterMap fun q => if pos q.1 then some (r,(q.2:Int)) else none).map v) = xs.filter pos:=ih
  cases hp:pos x with
  | true =>
   rw [List.filterMap_cons_some (b:=(r,(pre.length:Int))) (by simp [hp]),List.map_cons,ih',List.filter_cons_of_pos hp]
   congr 1
  | false =>
   rw [List.filterMap_cons_none (by simp [hp]),ih',List.filter_cons_of_neg (by simp [hp])]
theorem vals_cells (g:Grid):(gridF pos g).map (atG g) = (g.map fun xs => xs.filter pos).flatten:=by
 unfold gridF
 rw [List.map_flatten,List.map_map]
 have e:g.zipIdx.map (List.map (atG g) ∘ fun p => rowF pos p.2 p.1) = g.zipIdx.map fun p => p.1.filter pos:=by
  refine List.map_congr_left fun p hp => ?_
  obtain ⟨xs,i⟩:=p
  have hx:=List.mem_zipIdx_iff_getElem?.mp hp
  show (rowF pos i xs).map (atG g) = xs.filter pos
  exact row_vals (r:=(i:Int)) [] xs (atG g) fun j x hj => by
   simp only [List.length_nil,Nat.zero_add]
   exact atG_of hx hj
 rw [e]
 congr 1
 have:(fun p:List Int × Nat => p.1.filter pos) = (fun xs => xs.filter pos) ∘ Prod.fst:=rfl
 rw [this,← List.map_map,List.zipIdx_map_fst]
theorem len_cells (g:Grid):(gridF pos g).length = cntG g:=by
 have:=congrArg List.length (vals_cells g)
 rw [List.length_map] at this
 rw [this,List.length_flatten,List.map_map]
 rfl
end Grd
namespace L2
open PySem Grd
noncomputable def forBody (s:Stmt):List Stmt:=match s with | .For _ _ b _ _ => b | _ => []
noncomputable def RowsG (H:Hp) (bs:List Addr) (g:Grid):Prop:=Paired (fun b xs => H b = some (.tup ((xs:List Int).map V.int))) bs g
noncomputable def GridAt (H:Hp) (a:Addr) (g:Grid):Prop:=∃ bs:List Addr,H a = some (.tup (bs.map V.ref))∧RowsG H bs g
theorem RowsG.ext {H H':Hp} {bs:List Addr} {g:Grid} (h:RowsG H bs g) (e:Ext H H'):RowsG H' bs g:=Paired.mapP h fun _ _ z => e.tup _ _ z
theorem GridAt.ext {H H':Hp} {a:Addr} {g:Grid} (h:GridAt H a g) (e:Ext H H'):GridAt H' a g:=let ⟨bs,h1,h2⟩:=h; ⟨bs,e.tup _ _ h1,h2.ext e⟩
theorem RowsG.get {H:Hp}:∀ {bs:List Addr} {g:Grid} {i:Nat} {xs:List Int},RowsG H bs g→g[i]? = some xs→∃ b,bs[i]? = some b∧H b = some (.tup (xs.map V.int))
 | _,_,0,_,.cons r _,h => by cases h; exact ⟨_,rfl,r⟩
 | _,_,i + 1,_,.cons _ t,h => RowsG.get (i:=i) t (by simpa using h)
theorem RowsG.row {H:Hp}:∀ {bs:List Addr} {g:Grid} {i:Nat} {b:Addr},RowsG H bs g→bs[i]? = some b→∃ xs,g[i]? = some xs∧H b = some (.tup (xs.map V.int))
 | _,_,0,_,.cons r _,h => by cases h; exact ⟨_,rfl,r⟩
 | _,_,i + 1,_,.cons _ t,h => RowsG.row (i:=i) t (by simpa using h)
end L2
namespace M43
open PySem L2 PyProof.Rows Grd
noncomputable abbrev sMeadL:Stmt:=top 44
structure Txt2 (mg:Str→Option Value):Prop where
 range:mg "range" = none
 list:mg "list" = none
 zip:mg "zip" = none
 sum:mg "sum" = none
 dict:mg "dict" = none
 set:mg "set" = none
 sorted:mg "sorted" = none
 any:mg "any" = none
 abs:mg "abs" = none
 road:∃ t,mg "ROAD" = some (.int (-1) t)
noncomputable def spMeadL:Sp:=fun vs H Q _ => ∃ p,vs = [.ref p,.int 10]∧PenAt H p∧∀ a g w H',Stp p H H'→GridAt H' a g→Good g w→Q (.ref a) H'
section
variable {P:Program} {w:World} {K:PySem.W.Frag} {mg:Str→Option Value} {base:Heap}
noncomputable abbrev nMeadL:List Str:=["_law_pen_here","_law_most","_law_high","_law_wide","_law_odds","_law_rows","_law_left","_law_line","_law_row","_law_place","_law_number"]
theorem scMeadL:FnScope nMeadL ["_law_pen_here","_law_most"] (defScope sMeadL):=⟨rfl,rfl,rfl,by decide +kernel,rfl,by decide +kernel,by decide +kernel⟩
noncomputable abbrev σM (p lr:Addr) (m hi wi od lf:Int) (o7 o8 o9 o10:Option V):L2.St:=[some (.ref p),some (.int m),some (.int hi),some (.int wi),some (.int od),some (.ref lr),some (.int lf),o7,o8,o9,o10]
noncomputable def dec (n:Int):Int:=if decide (0 ≤ n) = true then 1 else 0
theorem dec_cnt (n:Int):((if pos n then 1 else 0:Nat):Int) = dec n:=by
 unfold dec pos
 by_cases h:0 ≤ n <;> simp [h]
theorem cut1 (xs:List Int) (h:1 ≤ xs.length):cutV (xs.map V.int) (some 1) none = (xs.drop 1).map V.int:=by
 have e1:HT.sIx (xs.map V.int).length 0 (some 1) = min 1 (xs.map V.int).length:=HT.sIx_nat _ _ 1
 have e2:HT.sIx (xs.map V.int).length (xs.map V.int).length none = (xs.map V.int).length:=rfl
 unfold cutV
 rw [e1,e2,List.length_map]
 have e3:min 1 xs.length = 1:=by omega
 rw [e3,← List.map_drop,List.take_of_length_le (by rw [List.length_map,List.length_drop]; omega)]
theorem ok_meadL {f g:Addr} {fd gd:FuncData} (F:Fun K "_law_mead" "_law_mead" sMeadL f fd) (T:Txt mg) (T2:Txt2 mg) (b1:Binds K gd ["_law_pen_here","_law_many"] []) (m1:mg "_law_draw" = some (.ref g)) (p1:PySem.W.keepIn K (.ref g) = true)
    (D:FnOk P w K mg base CX0 1 g gd ["_law_pen_here","_law_many"] spDraw):FnOk P w K mg base CX0 2 f fd ["_law_pen_here","_law_most"] spMeadL:=by
  refine F.ok scMeadL (fun vs H Q E h => ?_) (fun cdv A outer s H vs Q E hr h => ?_)
  · obtain ⟨p,rfl,_⟩:=h; rfl
  · obtain ⟨p,rfl,hp,q⟩:=h
    have nd:=scMeadL.nd
    -- left = left - int(number >= 0); row.append(number)
    have t45:∃ tt,PSs (cxOf CX0 P w K mg base nMeadL "_law_mead" (defScope sMeadL) f cdv A outer s H E).nox ((forBody ((forBody ((defBody sMeadL).getD 2 (.Pass ⟨0,0,0,0⟩))).getD 1 (.Pass ⟨0,0,0,0⟩))).drop 3) tt ∧
        ∀ (lr rw':Addr) (hi wi od lf n:Int) (o7 o9:Option V) (H1:Hp) (xs:List V) (De:Ends),H1 rw' = some (.lst xs)→xs.length ≤ 10→De.nx (σM p lr 10 hi wi od (lf - dec n) o7 (some (.ref rw')) o9 (some (.int n))) (upd H1 rw' (.lst (xs ++ [.int n]))) →
          tt De (σM p lr 10 hi wi od lf o7 (some (.ref rw')) o9 (some (.int n))) H1:=by
      refine ⟨_,pss_cons (ps_set (i:=6) nd rfl (Or.inl rfl) (pe_op op_sub (pv 6) (pe_callTy call_int1 rfl T.int boot_int (pa_m (pe_cmpR op_ge (pv 10) pe_int (nomark _)) pa_nil)))) <|
        pss_one (ps_expr (pe_bm PySem.F.plainAttrs_list PySem.F.slot_list_append PySem.F.type_list_append mt_append (pv 8) (pa_v (pv 10) pa_nil))),?_⟩
      intro lr rw' hi wi od lf n o7 o9 H1 xs De hrw hz k
      refine ⟨_,rfl,_,rfl,_,_,rfl,rfl,.inr ⟨_,rfl,_,_,rfl,rfl,?_⟩⟩
      exact ⟨_,rfl,.inl ⟨rfl,_,SqL.of hrw⟩,_,rfl,rw',xs,_,rfl,rfl,hrw,small1000 (by omega),k⟩
    obtain ⟨tt45,h45,r45⟩:=t45
    have t345:∃ tt,PSs (cxOf CX0 P w K mg base nMeadL "_law_mead" (defScope sMeadL) f cdv A outer s H E).nox ((forBody ((forBody ((defBody sMeadL).getD 2 (.Pass ⟨0,0,0,0⟩))).getD 1 (.Pass ⟨0,0,0,0⟩))).drop 2) tt ∧
        ∀ (lr rw':Addr) (hi wi od lf n:Int) (o7 o9:Option V) (H1:Hp) (xs:List V) (De:Ends),H1 rw' = some (.lst xs)→xs.length ≤ 10→(∀ n',(n' = n ∨ n' = -1)→(0 ≤ n'→lf ≠ 0)→De.nx (σM p lr 10 hi wi od (lf - dec n') o7 (some (.ref rw')) o9 (some (.int n'))) (upd H1 rw' (.lst (xs ++ [.int n'])))) →
          tt De (σM p lr 10 hi wi od lf o7 (some (.ref rw')) o9 (some (.int n))) H1:=by
      refine ⟨_,pss_cons (ps_if (PW.pt (pw_and (pt_cmpR op_ge (pv 10) pe_int (nomark _)) (pw_and1 (pt_cmpR op_eq (pv 6) pe_int (nomark _))))) (pss_one (ps_set (i:=10) nd rfl (Or.inl rfl) (pe_un un_neg pe_int))) pss_nil) h45,?_⟩
      intro lr rw' hi wi od lf n o7 o9 H1 xs De hrw hz k
      refine ⟨_,rfl,_,_,rfl,rfl,_,rfl,ite2d (fun n0 => ?_) fun n0 => ?_⟩
      · refine ⟨_,rfl,rfl,_,rfl,ite2d (fun l0 => ?_) fun l0 => ?_⟩
        · exact ⟨_,rfl,r45 lr rw' hi wi od lf _ o7 o9 H1 xs De hrw hz (k (-1) (.inr rfl) fun z => absurd z (by decide))⟩
        · exact r45 lr rw' hi wi od lf n o7 o9 H1 xs De hrw hz (k n (.inl rfl) fun _ z => l0 (by rw [z]))
      · refine iteF ?_
        exact r45 lr rw' hi wi od lf n o7 o9 H1 xs De hrw hz (k n (.inl rfl) fun z => absurd z n0)
    obtain ⟨tt3,h3,r3⟩:=t345
    have tin:∃ tt,PSs (cxOf CX0 P w K mg base nMeadL "_law_mead" (defScope sMeadL) f cdv A outer s H E).nox (forBody ((forBody ((defBody sMeadL).getD 2 (.Pass ⟨0,0,0,0⟩))).getD 1 (.Pass ⟨0,0,0,0⟩))) tt ∧
        ∀ (lr rw':Addr) (hi wi od lf:Int) (o7 o9 o10:Option V) (H1:Hp) (xs:List V) (De:Ends),PenAt H1 p→H1 rw' = some (.lst xs)→rw' ≠ p→xs.length ≤ 10 →
          (∀ n' H2,Stp p H1 H2→-2 ≤ n'→n' ≤ 99→(0 ≤ n'→lf ≠ 0)→De.nx (σM p lr 10 hi wi od (lf - dec n') o7 (some (.ref rw')) o9 (some (.int n'))) (upd H2 rw' (.lst (xs ++ [.int n'])))) →
          tt De (σM p lr 10 hi wi od lf o7 (some (.ref rw')) o9 o10) H1:=by
      refine ⟨_,pss_cons (ps_set (i:=10) nd rfl (Or.inl rfl) (pe_ix ix_list (pe_lst (pa_k (pe_call D hr rfl m1 p1 b1 .nil pass0 (pa_v (pv 0) (pa_c pe_int pa_nil))) (pa_k (pe_call D hr rfl m1 p1 b1 .nil pass0 (pa_v (pv 0) (pa_c pe_int pa_nil))) (pa_u (pe_un un_neg pe_int) (pa_u (pe_un un_neg pe_int) (pa_c pe_int pa_nil))))))
          (pe_call D hr rfl m1 p1 b1 .nil pass0 (pa_v (pv 0) (pa_c pe_int pa_nil))) (fun _ _ => rfl))) <|
        pss_cons (ps_if (PW.pt (pw_and (pt_cmpR op_gt (pv 4) pe_int (nomark _)) (pw_and1 (pt_cmpR op_eq (pe_call D hr rfl m1 p1 b1 .nil pass0 (pa_v (pv 0) (pa_c pe_int pa_nil))) pe_int (nomark _))))) (pss_one (ps_set (i:=10) nd rfl (Or.inl rfl) (pe_call D hr rfl m1 p1 b1 .nil pass0 (pa_v (pv 0) (pa_c pe_int pa_nil))))) pss_nil) h3,?_⟩
      intro lr rw' hi wi od lf o7 o9 o10 H1 xs De hp1 hrw hrp hz k
      refine ⟨_,rfl,p,4,rfl,hp1,by decide,by decide,fun d1 H2 a1 a2 st2 => ?_⟩
      refine ⟨_,rfl,p,100,rfl,st2.pen,by decide,by decide,fun d2 H3 c1 c2 st3 => ?_⟩
      refine ⟨_,rfl,_,rfl,?_⟩
      refine ⟨by show 5 ≤ sizeLine; decide,fun l hl => ?_⟩
      have stl:Stp p H1 (upd H3 l (.lst [.int d1,.int d2,.int (-1),.int (-2),.int 1])):=(st2.trans st3).same (same_upd hl)
      refine ⟨_,rfl,p,5,rfl,stl.pen,by decide,by decide,fun i H4 i0 i1 st4 => ?_⟩
      have hlp:l ≠ p:=fun z => by
        obtain ⟨x,f',e⟩:=st3.pen
        rw [z,e] at hl; cases hl
      obtain ⟨n,hn,nlo,nhi⟩:∃ n,atI [V.int d1,.int d2,.int (-1),.int (-2),.int 1] i = some (.int n)∧-2 ≤ n∧n ≤ 99:=by
        obtain ⟨j,rfl⟩:=Int.eq_ofNat_of_zero_le i0
        have hj:j < 5:=by omega
        match j,hj with
        | 0,_ => exact ⟨_,atI_nat rfl,by omega,by omega⟩
        | 1,_ => exact ⟨_,atI_nat rfl,by omega,by omega⟩
        | 2,_ => exact ⟨_,atI_nat rfl,by omega,by omega⟩
        | 3,_ => exact ⟨_,atI_nat rfl,by omega,by omega⟩
        | 4,_ => exact ⟨_,atI_nat rfl,by omega,by omega⟩
      have st5:=stl.trans st4
      refine ⟨l,_,i,_,rfl,rfl,SqL.of (st4.keep l _ hlp upd_same),hn,?_⟩
      refine ⟨_,rfl,_,_,rfl,rfl,_,rfl,ite2d (fun _ => ?_) fun _ => ?_⟩
      · refine ⟨_,rfl,p,2,rfl,st5.pen,by decide,by decide,fun z H5 z0 z1 st6 => ?_⟩
        refine ⟨rfl,_,rfl,ite2d (fun _ => ?_) fun _ => ?_⟩
        · refine ⟨_,rfl,p,9,rfl,st6.pen,by decide,by decide,fun n2 H6 y0 y1 st7 => ?_⟩
          have st8:=(st5.trans st6).trans st7
          exact r3 lr rw' hi wi od lf n2 o7 o9 H6 xs De (st8.keep _ _ hrp hrw) hz fun n' e hl => k n' H6 st8 (by omega) (by omega) hl
        · have st8:=st5.trans st6
          exact r3 lr rw' hi wi od lf n o7 o9 H5 xs De (st8.keep _ _ hrp hrw) hz fun n' e hl => k n' H5 st8 (by omega) (by omega) hl
      · refine iteF ?_
        exact r3 lr rw' hi wi od lf n o7 o9 H4 xs De (st5.keep _ _ hrp hrw) hz fun n' e hl => k n' H4 st5 (by omega) (by omega) hl
    obtain ⟨tti,hin,rin⟩:=tin
    refine ⟨_,pss_cons (ps_par3 (i:=2) (j:=3) (k:=4) rfl nd rfl rfl rfl (by decide) (by decide) (by decide) rfl rfl rfl (pa_b (pe_op op_add pe_int (pe_call D hr rfl m1 p1 b1 .nil pass0 (pa_v (pv 0) (pa_c pe_int pa_nil)))) (pa_b (pe_op op_add pe_int (pe_call D hr rfl m1 p1 b1 .nil pass0 (pa_v (pv 0) (pa_c pe_int pa_nil)))) (pa_k (pe_call D hr rfl m1 p1 b1 .nil pass0 (pa_v (pv 0) (pa_c pe_int pa_nil))) pa_nil))) rfl) <|
      pss_cons (ps_par (i:=5) (j:=6) rfl nd rfl rfl (by decide) rfl rfl (pa_l (pe_lst pa_nil) (pa_v (pv 1) pa_nil)) rfl) <|
      pss_cons (ps_for PassesOwn.never rfl (pi_range1 rfl T2.range (pa_v (pv 2) pa_nil)) (pg_name (i:=7) nd rfl (Or.inl rfl))
        (pss_cons (ps_set (i:=8) nd rfl (Or.inl rfl) (pe_lst pa_nil)) <|
         pss_cons (ps_for PassesOwn.never rfl (pi_range1 rfl T2.range (pa_v (pv 3) pa_nil)) (pg_name (i:=9) nd rfl (Or.inl rfl)) hin) <|
         pss_one (ps_expr (pe_bm PySem.F.plainAttrs_list PySem.F.slot_list_append PySem.F.type_list_append mt_append (pv 5) (pa_k (pe_callTy call_tuple_of rfl T.tuple boot_tuple (pa_v (pv 8) pa_nil)) pa_nil))))) <|
      pss_cons (ps_if (pt_cmpR op_eq (pv 6) (pv 1) (nomark _)) (pss_one (ps_asg (pe_op op_catU (pe_tup (pa_c pe_int pa_nil)) (pe_slice sl_tupU (pe_ix ix_list (pv 5) pe_int (fun _ _ => rfl)) (po_some pe_int) po_none)) (pg_sub (pv 5) pe_int set_list))) pss_nil) <|
      pss_one (ps_ret (pe_callTy call_tuple_of rfl T.tuple boot_tuple (pa_v (pv 5) pa_nil))),?_⟩
    refine ⟨_,rfl,p,4,rfl,hp,by decide,by decide,fun d1 H1 a1 a2 st1 => ?_⟩
    refine ⟨_,_,rfl,rfl,_,rfl,p,5,rfl,st1.pen,by decide,by decide,fun d2 H2 c1 c2 st2 => ?_⟩
    refine ⟨_,_,rfl,rfl,_,rfl,p,3,rfl,st2.pen,by decide,by decide,fun od H3 e1 e2 st3 => ?_⟩
    refine ⟨_,_,_,rfl,?_⟩
    refine ⟨by show 0 ≤ sizeLine; decide,fun lr hlr => ?_⟩
    refine ⟨_,rfl,_,_,rfl,?_⟩
    have st4:Stp p H (upd H3 lr (.lst [])):=((st1.trans st2).trans st3).same (same_upd hlr)
    have hHlr:H lr = none:=by
      cases e:H lr with
      | none => rfl
      | some o =>
        by_cases z:lr = p
        · obtain ⟨x,f',e'⟩:=st3.pen
          rw [z,e'] at hlr; cases hlr
        · rw [((st1.trans st2).trans st3).keep lr o z e] at hlr; cases hlr
    have hlrp:lr ≠ p:=fun z => by
      obtain ⟨x,f',e'⟩:=hp
      rw [z,e'] at hHlr; cases hHlr
    refine ⟨_,rfl,1 + d1,rfl,by omega,by omega,?_⟩
    refine for_range (lo:=0) (n:=(1 + d1).toNat) (fun i σ H' => ∃ (lf:Int) (bs:List Addr) (g:Grid),(∃ o7 o8 o9 o10,σ = σM p lr 10 (1 + d1) (1 + d2) od lf o7 o8 o9 o10)∧Stp p H H'∧H' lr = some (.lst (bs.map V.ref))∧RowsG H' bs g∧g.length = i∧0 ≤ lf∧lf + cntG g = 10∧(∀ xs ∈ g,xs.length = (1 + d2).toNat)∧∀ xs ∈ g,∀ n ∈ xs, -2 ≤ n∧n ≤ 99)
      ⟨10,[],[],⟨_,_,_,_,rfl⟩,st4,upd_same,.nil,rfl,by decide,rfl,(fun r hr' => by cases hr'),(fun r hr' => by cases hr')⟩ ?_ ?_
    · rintro i σ H' hi ⟨lf,bs,g,⟨o7,o8,o9,o10,rfl⟩,st',hlr',hG,hn,lf0,lfc,hlen,hnum⟩
      have hbs:bs.length = g.length:=Paired.length hG
      refine ⟨by show 0 ≤ sizeLine; decide,fun rw' hrw => ?_⟩
      have hrp:rw' ≠ p:=fun z => by
        obtain ⟨x,f',e'⟩:=st'.pen
        rw [z,e'] at hrw; cases hrw
      have hrl:rw' ≠ lr:=fun z => by rw [z,hlr'] at hrw; cases hrw
      refine ⟨_,rfl,1 + d2,rfl,by omega,by omega,?_⟩
      refine for_range (lo:=0) (n:=(1 + d2).toNat) (fun j σ H2 => ∃ (lf2:Int) (xs:List Int),(∃ o9 o10,σ = σM p lr 10 (1 + d1) (1 + d2) od lf2 (some (.int (0 + i))) (some (.ref rw')) o9 o10)∧Stp p H' H2∧H2 rw' = some (.lst (xs.map V.int))∧xs.length = j∧0 ≤ lf2∧lf2 + cntR xs = lf∧∀ n ∈ xs, -2 ≤ n∧n ≤ 99)
        ⟨lf,[],⟨_,_,rfl⟩,(Stp.refl st'.pen).updL hrw st'.pen,upd_same,rfl,lf0,by simp [cntR],fun x hx => by cases hx⟩ ?_ ?_
      · rintro j σ H2 hj ⟨lf2,xs,⟨o92,o102,rfl⟩,stj,hxs,hnj,l0,lc,hxi⟩
        refine rin lr rw' _ _ _ lf2 _ _ _ H2 (xs.map V.int) _ stj.pen hxs hrp (by rw [List.length_map]; omega) fun n' H3 st3' n1 n2 nl => ?_
        refine ⟨lf2 - dec n',xs ++ [n'],⟨_,_,rfl⟩,(stj.trans st3').updL hrw st'.pen,by rw [upd_same,List.map_append]; rfl,by rw [List.length_append,hnj]; rfl,?_,?_,fun x hx => ?_⟩
        · unfold dec
          by_cases h0:0 ≤ n'
          · have:=nl h0
            rw [decide_eq_true h0,if_pos rfl]; omega
          · rw [decide_eq_false h0,if_neg (by decide)]; omega
        · rw [cntR_succ,Int.natCast_add,dec_cnt]; omega
        · rcases List.mem_append.mp hx with z | z
          · exact hxi x z
          · rw [List.mem_singleton.mp z]; exact ⟨n1,n2⟩
      · rintro σ H2 ⟨lf2,xs,⟨o92,o102,rfl⟩,stj,hxs,hnj,l0,lc,hxi⟩
        have hlr2:=stj.keep lr _ hlrp hlr'
        refine ⟨_,rfl,.inl ⟨rfl,_,SqL.of hlr2⟩,_,rfl,rw',xs.map V.int,rfl,.inl ⟨SqL.of hxs,fun t ht => ?_⟩⟩
        have s3:=same_upd (o:=.tup (xs.map V.int)) ht
        have hlr3:=s3 _ _ hlr2
        refine ⟨lr,bs.map V.ref,_,rfl,rfl,hlr3,small1000 (by rw [List.length_map]; omega),?_⟩
        have exA:Ext H' (upd (upd H2 t (.tup (xs.map V.int))) lr (.lst (bs.map V.ref ++ [.ref t]))):=((stj.ext st'.pen).trans s3.ext).trans (Ext.updL hlr3)
        have htl:t ≠ lr:=fun z => by rw [z,hlr2] at ht; cases ht
        refine ⟨lf2,bs ++ [t],g ++ [xs],⟨_,_,_,_,rfl⟩,((st'.trans stj).same s3).updL hHlr hp,by rw [upd_same,List.map_append]; rfl,Paired.snoc (hG.ext exA) (by rw [upd_ne htl,upd_same]),by rw [List.length_append,hn]; rfl,l0,?_,fun ys hy => ?_,fun ys hy => ?_⟩
        · rw [cntG_succ]; omega
        · rcases List.mem_append.mp hy with z | z
          · exact hlen ys z
          · rw [List.mem_singleton.mp z]; exact hnj
        · rcases List.mem_append.mp hy with z | z
          · exact hnum ys z
          · rw [List.mem_singleton.mp z]; exact hxi
    · rintro σ H' ⟨lf,bs,g,⟨o7,o8,o9,o10,rfl⟩,st',hlr',hG,hn,lf0,lfc,hlen,hnum⟩
      have hbs:bs.length = g.length:=Paired.length hG
      have h1:1 ≤ g.length:=by omega
      have h4:g.length ≤ 4:=by omega
      refine ⟨_,rfl,_,rfl,rfl,_,rfl,ite2d (fun e10 => ?_) fun e10 => ?_⟩
      · have e10':lf = 10:=V.int.inj e10
        obtain ⟨b0,bs',rfl⟩:∃ b0 bs',bs = b0 :: bs':=List.exists_cons_of_ne_nil (fun z => by rw [z] at hbs; simp at hbs; omega)
        obtain ⟨xs0,g',rfl⟩:∃ xs0 g',g = xs0 :: g':=List.exists_cons_of_ne_nil (fun z => by rw [z] at h1; simp at h1)
        have hb0:H' b0 = some (.tup (xs0.map V.int)):=by cases hG with | cons a b => exact a
        have hG':RowsG H' bs' g':=by cases hG with | cons a b => exact b
        have hw0:=hlen xs0 List.mem_cons_self
        refine ⟨by show 1 ≤ sizeLine; decide,fun t3 ht3 => ?_⟩
        have s3:=same_upd (o:=.tup [.int 3]) ht3
        refine ⟨_,rfl,lr,_,0,.ref b0,rfl,rfl,SqL.of (s3 _ _ hlr'),atI_nat (j:=0) rfl,_,rfl,b0,xs0.map V.int,rfl,s3 _ _ hb0,fun c H4 s4 hc => ?_⟩
        rw [cut1 xs0 (by omega)] at hc
        refine ⟨t3,c,[.int 3],_,rfl,rfl,s4 _ _ upd_same,hc,?_,fun c2 H5 s5 hc2 => ?_⟩
        · rw [List.length_map,List.length_drop,sizeLine_eq]; show 1 + _ ≤ _; omega
        have hlr5:=s5 _ _ (s4 _ _ (s3 _ _ hlr'))
        refine ⟨_,rfl,lr,_,0,0,rfl,rfl,hlr5,(by unfold ixN; rw [if_pos (by decide),if_pos (by simp)]; rfl),?_⟩
        have exA:Ext H' (upd H5 lr (.lst (((b0 :: bs').map V.ref).set 0 (.ref c2)))):=((s3.ext.trans s4.ext).trans s5.ext).trans (Ext.updL hlr5)
        refine ⟨_,rfl,lr,_,rfl,.inl ⟨SqL.of upd_same,fun tt htt => ?_⟩⟩
        have s6:=same_upd (o:=.tup (((b0 :: bs').map V.ref).set 0 (.ref c2))) htt
        have hc2l:c2 ≠ lr:=fun z => by rw [z,hlr5] at hc2; cases hc2
        have z0:cntG (xs0 :: g') = 0:=by omega
        have z1:cntR xs0 = 0∧cntG g' = 0:=by
          unfold cntG at z0 ⊢
          rw [List.map_cons,List.sum_cons] at z0
          omega
        have zd:cntR (xs0.drop 1) = 0:=by
          have:(xs0.filter pos) = []:=List.length_eq_zero_iff.mp z1.1
          unfold cntR
          rw [List.length_eq_zero_iff,List.filter_eq_nil_iff]
          intro a ha
          exact List.filter_eq_nil_iff.mp this a (List.mem_of_mem_drop ha)
        have zc:cntG ((3 :: xs0.drop 1) :: g') = 1:=by
          have e1:cntR (3 :: xs0.drop 1) = cntR (xs0.drop 1) + 1:=by unfold cntR; rw [List.filter_cons_of_pos (by decide),List.length_cons]
          unfold cntG
          rw [List.map_cons,List.sum_cons,e1,zd]
          have:=z1.2
          unfold cntG at this
          omega
        refine q tt ((3 :: xs0.drop 1) :: g') (1 + d2).toNat _ ((((st'.same s3).same s4).same s5).updL hHlr hp |>.same s6) ⟨c2 :: bs',upd_same,.cons ?_ (hG'.ext (exA.trans s6.ext))⟩ ⟨by simp,by simpa using h4,by omega,by omega,fun ys hy => ?_,fun ys hy => ?_,by omega,by omega⟩
        · exact s6 _ _ (by rw [upd_ne hc2l]; exact hc2)
        · rcases List.mem_cons.mp hy with z | z
          · rw [z,List.length_cons,List.length_drop]; omega
          · exact hlen ys (List.mem_cons_of_mem _ z)
        · rcases List.mem_cons.mp hy with z | z
          · rw [z]
            intro n hn'
            rcases List.mem_cons.mp hn' with z' | z'
            · omega
            · exact hnum xs0 List.mem_cons_self n (List.mem_of_mem_drop z')
          · exact hnum ys (List.mem_cons_of_mem _ z)
      · refine ⟨_,rfl,lr,_,rfl,.inl ⟨SqL.of hlr',fun tt htt => ?_⟩⟩
        have s6:=same_upd (o:=.tup (bs.map V.ref)) htt
        have e10':lf ≠ 10:=fun z => e10 (by rw [z])
        exact q tt g (1 + d2).toNat _ (st'.same s6) ⟨bs,upd_same,hG.ext s6.ext⟩ ⟨h1,h4,by omega,by omega,hlen,hnum,by omega,by omega⟩
end
end M43
namespace PySem
open Sem (wp)
section
variable {prog:Program} {w:World} {A:Around} {E:Value→Shared→Prop} {s:Shared}
structure ZipFar (z TI TO i1 i2:Addr) (f1 f2:List Addr):Prop where
 z1:z ∉ f1
 z2:z ∉ f2
 o1:TO ∉ f1
 o2:TO ∉ f2
 c1:i1 ∉ f2
 c2:i2 ∉ f1
 Iz:TI ≠ z
 Oz:TO ≠ z
 iz:i1 ≠ z
 jz:i2 ≠ z
 IO:TI ≠ TO
 I1:TI ≠ i1
 I2:TI ≠ i2
 O1:TO ≠ i1
 O2:TO ≠ i2
 ij:i1 ≠ i2
theorem zipFar_new (n a b:Nat) (h1:a < n) (h2:b < n):ZipFar (n + 4) (n + 2) (n + 3) n (n + 1) [n,a] [n + 1,b]:=by
  constructor <;> intro h <;> first
    | (have h':@Eq Nat _ _:=h; omega)
    | (rcases List.mem_cons.mp h with y | y
       · have y':@Eq Nat _ _:=y; omega
       · have y':@Eq Nat _ _:=List.mem_singleton.mp y; omega)
theorem zipD_item {z TI TO i1 i2:Addr} {f1 f2:List Addr} {n1 n2 k:Nat} {P1 P2:Nat→Value→Prop} {S1 S2:Nat→Heap→Prop} {a b:Value} {Q:Value→Shared→Prop} (D1:Draws prog w A i1 f1 n1 P1 S1) (D2:Draws prog w A i2 f2 n2 P2 S2) (D:ZipFar z TI TO i1 i2 f1 f2)
  (hz:IsZip s.heap z TI TO .none) (hTI:IsPair s.heap TI (.ref i1) (.ref i2)) (hTO:IsPair s.heap TO a b) (t1:S1 k s.heap) (t2:S2 k s.heap) (hk1:k < n1) (hk2:k < n2)
  (hQ:∀ x y h' tk,P1 k x→P2 k y→IsZip h' z TI TO (rawInt s.heap.objs.size)→IsPair h' TO x y→S1 (k + 1) h'→S2 (k + 1) h'→IsPair h' s.heap.objs.size x y →
   (∀ c o,c ≠ z→c ≠ TO→c ≠ i1→c ≠ i2→s.heap.get? c = some o→h'.get? c = some o)→Q (.ref s.heap.objs.size) { s with heap:=h',toks:=tk }) :
  wpAny (model prog w) A (Builtin.«zip.__next__» ⟨[.ref z],[]⟩) (fun fin s' => ∃ v,fin = .done (.ret v)∧Q v s') E s:=by
 show wpAny _ _ (field (.ref z) 2 >>= _) _ _ _; refine wpAny_bind (wpAny_field hz rfl (x:=.bool false) rfl ?_); show wpAny _ _ (field (.ref z) 3 >>= _) _ _ _
 refine wpAny_bind (wpAny_field hz rfl (x:=.ref TI) rfl (wpAny_bind (wpAny_seqItems hTI rfl ?_)))
 show wpAny _ _ (Builtin.SmallTypes.ownedTupleIsFree (.ref z) >>= _) _ _ _; refine wpAny_bind ?_; unfold Builtin.SmallTypes.ownedTupleIsFree
 refine wpAny_bind (wpAny_field hz rfl (x:=.none) rfl (wpAny_pure ?_)); simp only [if_true]
 refine wpAny_bind (wpAny_rule (wpAny_bind (wpAny_field hz rfl (x:=.ref TO) rfl (wpAny_bind (wpAny_setField_rec hz (by simp) fun h₁ hz₁ hs₁ => ?_)))))
 replace hz₁:IsZip h₁ z TI TO .ellipsis:=hz₁
 refine wpAny_bind ?_; simp only [List.zipIdx_cons,List.zipIdx_nil,List.forIn_cons,List.forIn_nil]
 refine wpAny_bind (wpAny_bind (wpAny_onRaise ?_)); show wpAny _ _ (Builtin.SmallTypes.nextOf (.ref i1) >>= _) _ _ _
 have u1:S1 k h₁:=D1.frame k _ _ t1 fun c hc o e => hs₁.extBut _ _ (fun q => D.z1 (q ▸ hc)) e
 refine wpAny_bind (D1.item k _ _ _ hk1 u1 fun x h₂ tk₂ hx v1 hs₂ => wpAny_pure ?_)
 have hTO₂:IsPair h₂ TO a b:=hs₂.extBut _ _ D.O1 (hs₁.extBut _ _ D.Oz hTO)
 refine wpAny_bind (wpAny_seqItems hTO₂ rfl (wpAny_bind (wpAny_updateSeq_pair hTO₂ fun h₃ hTO₃ hs₃ => ?_)))
 replace hTO₃:IsPair h₃ TO x b:=hTO₃
 refine wpAny_bind (wpAny_letGo (wpAny_pure ?_)); refine wpAny_bind (wpAny_bind (wpAny_onRaise ?_)); show wpAny _ _ (Builtin.SmallTypes.nextOf (.ref i2) >>= _) _ _ _
 have u2:S2 k h₃:=D2.frame k _ _ t2 fun c hc o e => hs₃.extBut _ _ (fun q => D.o2 (q ▸ hc)) (hs₂.extBut _ _ (fun q => D.c1 (q ▸ hc)) (hs₁.extBut _ _ (fun q => D.z2 (q ▸ hc)) e))
 refine wpAny_bind (D2.item k _ _ _ hk2 u2 fun y h₄ tk₄ hy v2 hs₄ => wpAny_pure ?_)
 have hTO₄:IsPair h₄ TO x b:=hs₄.extBut _ _ D.O2 hTO₃
 refine wpAny_bind (wpAny_seqItems hTO₄ rfl (wpAny_bind (wpAny_updateSeq_pair hTO₄ fun h₅ hTO₅ hs₅ => ?_)))
 replace hTO₅:IsPair h₅ TO x y:=hTO₅
 refine wpAny_bind (wpAny_letGo (wpAny_pure (wpAny_pure ?_))); refine wpAny_bind (wpAny_seqItems hTO₅ rfl (wpAny_bind (wpAny_newTuple ?_)))
 have hsz:h₅.objs.size = s.heap.objs.size:=by rw [hs₅.1,hs₄.1,hs₃.1,hs₂.1,hs₁.1]
 have hz₅:IsZip h₅ z TI TO .ellipsis:=hs₅.extBut _ _ D.Oz.symm (hs₄.extBut _ _ D.jz.symm (hs₃.extBut _ _ D.Oz.symm (hs₂.extBut _ _ D.iz.symm hz₁)))
 have hk₅:∀ c o,c ≠ z→c ≠ TO→c ≠ i1→c ≠ i2→s.heap.get? c = some o→h₅.get? c = some o:=fun c o e1 e2 e3 e4 e => hs₅.extBut _ _ e2 (hs₄.extBut _ _ e4 (hs₃.extBut _ _ e2 (hs₂.extBut _ _ e3 (hs₁.extBut _ _ e1 e))))
 have w1:S1 (k + 1) h₅:=D1.frame _ _ _ v1 fun c hc o e => hs₅.extBut _ _ (fun q => D.o1 (q ▸ hc)) (hs₄.extBut _ _ (fun q => D.c2 (q ▸ hc)) (hs₃.extBut _ _ (fun q => D.o1 (q ▸ hc)) e))
 have w2:S2 (k + 1) h₅:=D2.frame _ _ _ v2 fun c hc o e => hs₅.extBut _ _ (fun q => D.o2 (q ▸ hc)) e
 have hzlt:z < h₅.objs.size:=Heap.lt_size hz₅
 show wpAny _ _ (Builtin.SmallTypes.ownedTupleHandOut (.ref z) (.ref h₅.objs.size) >>= _) _ _ _; refine wpAny_bind ?_; unfold Builtin.SmallTypes.ownedTupleHandOut
 have hz₆:IsZip (h₅.push { cls:=.type "tuple",data:=.seq #[x,y] }) z TI TO .ellipsis:=Heap.get?_push_of_some _ hz₅
 refine wpAny_bind (wpAny_setField_rec hz₆ (by simp) fun h₇ hz₇ hs₇ => ?_); replace hz₇:IsZip h₇ z TI TO (rawInt h₅.objs.size):=hz₇
 refine wpAny_setField_rec hz₇ (by simp) fun h₈ hz₈ hs₈ => ?_; replace hz₈:IsZip h₈ z TI TO (rawInt h₅.objs.size):=hz₈
 have up:∀ c o,c ≠ z→h₅.get? c = some o→h₈.get? c = some o:=fun c o e1 e => hs₈.extBut _ _ e1 (hs₇.extBut _ _ e1 (Heap.get?_push_of_some _ e))
 have hT₈:IsPair h₈ h₅.objs.size x y:=hs₈.extBut _ _ (Nat.ne_of_gt hzlt) (hs₇.extBut _ _ (Nat.ne_of_gt hzlt) (Heap.get?_push_size _ rfl))
 rw [hsz] at hz₈ hT₈
 refine wpAny_pure ⟨_,rfl,?_⟩; show Q (.ref h₅.objs.size) _; rw [hsz]
 exact hQ x y h₈ _ hx hy hz₈ (up _ _ D.Oz hTO₅) (D1.frame _ _ _ w1 fun c hc o e => up c o (fun q => D.z1 (q ▸ hc)) e) (D2.frame _ _ _ w2 fun c hc o e => up c o (fun q => D.z2 (q ▸ hc)) e) hT₈ fun c o e1 e2 e3 e4 e => up c o e1 (hk₅ c o e1 e2 e3 e4 e)
theorem zipD_end {z TI TO i1 i2:Addr} {f1 f2:List Addr} {n1:Nat} {P1:Nat→Value→Prop} {S1:Nat→Heap→Prop} {Q:Fin→Shared→Prop} (D1:Draws prog w A i1 f1 n1 P1 S1) (D:ZipFar z TI TO i1 i2 f1 f2)
  (hz:IsZip s.heap z TI TO .none) (hTI:IsPair s.heap TI (.ref i1) (.ref i2)) (t1:S1 n1 s.heap)
  (hE:∀ h' e,(∀ c o,c ≠ z→c ≠ i1→s.heap.get? c = some o→h'.get? c = some o)→(∃ o,h'.get? e = some o∧o.cls = .type "StopIteration")→E (.ref e) { s with heap:=h' }) :
  wpAny (model prog w) A (Builtin.«zip.__next__» ⟨[.ref z],[]⟩) Q E s:=by
 show wpAny _ _ (field (.ref z) 2 >>= _) _ _ _; refine wpAny_bind (wpAny_field hz rfl (x:=.bool false) rfl ?_); show wpAny _ _ (field (.ref z) 3 >>= _) _ _ _
 refine wpAny_bind (wpAny_field hz rfl (x:=.ref TI) rfl (wpAny_bind (wpAny_seqItems hTI rfl ?_)))
 show wpAny _ _ (Builtin.SmallTypes.ownedTupleIsFree (.ref z) >>= _) _ _ _; refine wpAny_bind ?_; unfold Builtin.SmallTypes.ownedTupleIsFree
 refine wpAny_bind (wpAny_field hz rfl (x:=.none) rfl (wpAny_pure ?_)); simp only [if_true]
 refine wpAny_bind (wpAny_rule (wpAny_bind (wpAny_field hz rfl (x:=.ref TO) rfl (wpAny_bind (wpAny_setField_rec hz (by simp) fun h₁ hz₁ hs₁ => ?_)))))
 replace hz₁:IsZip h₁ z TI TO .ellipsis:=hz₁
 refine wpAny_bind ?_; simp only [List.zipIdx_cons,List.zipIdx_nil,List.forIn_cons,List.forIn_nil]
 refine wpAny_bind (wpAny_bind (wpAny_onRaise ?_)); show wpAny _ _ (Builtin.SmallTypes.nextOf (.ref i1) >>= _) _ _ _
 have u1:S1 n1 h₁:=D1.frame n1 _ _ t1 fun c hc o e => hs₁.extBut _ _ (fun q => D.z1 (q ▸ hc)) e
 refine wpAny_bind (D1.done _ _ _ u1 fun h₂ e hs₂ he => ?_)
 obtain ⟨oe,hoe,hce⟩:=he
 have hz₂:IsZip h₂ z TI TO .ellipsis:=hs₂ _ _ D.iz.symm hz₁
 have hez:e ≠ z:=fun x => by subst x; rw [hz₂] at hoe; cases hoe; simp at hce
 refine wpAny_setField_rec hz₂ (by simp) fun h₃ _ hs₃ => hE h₃ e (fun c o c1 c3 x => hs₃.extBut _ _ c1 (hs₂ _ _ c3 (hs₁.extBut _ _ c1 x))) ⟨oe,hs₃.extBut _ _ hez hoe,hce⟩
theorem nextZ_item {z TI TO i1 i2:Addr} {f1 f2:List Addr} {n1 n2 k:Nat} {P1 P2:Nat→Value→Prop} {S1 S2:Nat→Heap→Prop} {a b:Value} {Q:Option Value→Shared→Prop} (D1:Draws prog w A.in1 i1 f1 n1 P1 S1) (D2:Draws prog w A.in1 i2 f2 n2 P2 S2) (D:ZipFar z TI TO i1 i2 f1 f2)
  (hz:IsZip s.heap z TI TO .none) (hTI:IsPair s.heap TI (.ref i1) (.ref i2)) (hTO:IsPair s.heap TO a b) (t1:S1 k s.heap) (t2:S2 k s.heap) (hk1:k < n1) (hk2:k < n2)
  (hQ:∀ x y h' tk,P1 k x→P2 k y→IsZip h' z TI TO (rawInt s.heap.objs.size)→IsPair h' TO x y→S1 (k + 1) h'→S2 (k + 1) h'→IsPair h' s.heap.objs.size x y →
   (∀ c o,c ≠ z→c ≠ TO→c ≠ i1→c ≠ i2→s.heap.get? c = some o→h'.get? c = some o)→Q (some (.ref s.heap.objs.size)) { s with heap:=h',toks:=tk }) :
  wpAny (model prog w) A (pyNext (.ref z)) Q E s:=by
 have hT:s.TypeIs (.ref z) "zip":=⟨_,hz,rfl⟩
 unfold pyNext
 exact wpAny_bind (wpAny_attempt (wpAny_callSpecial?_slot (name:=Str.ofString "__next__") hT F.slot_zip_next (wpAny_call_entry F.slot_zip_next hT F.entry_zip_next
   (zipD_item D1 D2 D hz hTI hTO t1 t2 hk1 hk2 fun x y h' tk q1 q2 a1 a2 a3 a4 a5 a6 => wpAny_pure (hQ x y h' tk q1 q2 a1 a2 a3 a4 a5 a6)) (F.args_zip_next_1 _))))
theorem nextZ_end {z TI TO i1 i2:Addr} {f1 f2:List Addr} {n1:Nat} {P1:Nat→Value→Prop} {S1:Nat→Heap→Prop} {Q:Option Value→Shared→Prop} (D1:Draws prog w A.in1 i1 f1 n1 P1 S1) (D:ZipFar z TI TO i1 i2 f1 f2)
  (hz:IsZip s.heap z TI TO .none) (hTI:IsPair s.heap TI (.ref i1) (.ref i2)) (t1:S1 n1 s.heap)
  (hQ:∀ h',(∀ c o,c ≠ z→c ≠ i1→s.heap.get? c = some o→h'.get? c = some o)→Q none { s with heap:=h' }):wpAny (model prog w) A (pyNext (.ref z)) Q E s:=by
 have hT:s.TypeIs (.ref z) "zip":=⟨_,hz,rfl⟩
 unfold pyNext
 refine wpAny_bind (wpAny_attempt (wpAny_callSpecial?_slot (name:=Str.ofString "__next__") hT F.slot_zip_next (wpAny_call_entry F.slot_zip_next hT F.entry_zip_next (zipD_end D1 D hz hTI t1 fun h' e hk he => ?_) (F.args_zip_next_1 _))))
 obtain ⟨o,ho,hc⟩:=he
 exact wpAny_bind (wpAny_isInstance (T:="StopIteration") (b:=true) ⟨o,ho,hc⟩ isSubtype_stop (wpAny_pure (hQ _ hk)))
end
noncomputable abbrev zT1 (h:Heap) (l1:Addr):Heap:=h.push { cls:=.type "tuple_iterator",data:=.fields #[.ref l1,.int 0 0] }
noncomputable abbrev zT2 (h:Heap) (l1 l2:Addr):Heap:=(zT1 h l1).push { cls:=.type "tuple_iterator",data:=.fields #[.ref l2,.int 0 0] }
noncomputable abbrev zT3 (h:Heap) (l1 l2:Addr):Heap:=(zT2 h l1 l2).push { cls:=.type "tuple",data:=.seq #[.ref h.objs.size,.ref (zT1 h l1).objs.size] }
noncomputable abbrev zT4 (h:Heap) (l1 l2:Addr):Heap:=(zT3 h l1 l2).push { cls:=.type "tuple",data:=.seq #[.none,.none] }
noncomputable abbrev zT5 (h:Heap) (l1 l2:Addr):Heap:=(zT4 h l1 l2).push { cls:=.type "zip",data:=.fields #[.none,.bool false,.bool false,.ref (zT2 h l1 l2).objs.size,.ref (zT3 h l1 l2).objs.size] }
theorem meets_zip_newT (l1 l2:Addr) (xs ys:Array Value) :
  Meets (Builtin.«zip.__new__» ⟨[.type "zip",.ref l1,.ref l2],[]⟩) (fun _ R s => s.heap.IsTuple l1 xs∧s.heap.IsTuple l2 ys∧R (.ok (.ret (.ref (zT4 s.heap l1 l2).objs.size))) { s with heap:=zT5 s.heap l1 l2 }) :=
 .of_wp fun prog w A R s h => by
  obtain ⟨hp,g,d,tk,os⟩:=s; obtain ⟨p1,p2,h⟩:=h
  have isz:=sub_zip
  have q1:Heap.IsTuple (Shared.heap ⟨hp,g,d,tk,os⟩) l1 xs:=p1
  have q2:Heap.IsTuple (Shared.heap ⟨hp.push { cls:=.type "tuple_iterator",data:=.fields #[.ref l1,.int 0 0] },g,d,tk,os⟩) l2 ys:=let ⟨o,ho,r⟩:=p2; ⟨o,Heap.get?_push_of_some _ ho,r⟩
  wp_walk using wpAny_pyIter_tuple q1,wpAny_pyIter_tuple q2
  exact ⟨_,rfl,h⟩
section
variable {prog:Program} {w:World} {A:Around} {E:Value→Shared→Prop} {s:Shared}
theorem call_zip_T {l1 l2:Addr} {xs ys:Array Value} {Q:Value→Shared→Prop} (p1:s.heap.IsTuple l1 xs) (p2:s.heap.IsTuple l2 ys)
  (h:∀ h',IsZip h' (s.heap.objs.size + 4) (s.heap.objs.size + 2) (s.heap.objs.size + 3) .none→IsPair h' (s.heap.objs.size + 2) (.ref s.heap.objs.size) (.ref (s.heap.objs.size + 1)) →
   IsPair h' (s.heap.objs.size + 3) .none .none→h'.IsTupleIter s.heap.objs.size l1 0→h'.IsTupleIter (s.heap.objs.size + 1) l2 0→h'.objs.size = s.heap.objs.size + 5 →
   (∀ c o,s.heap.get? c = some o→h'.get? c = some o)→Q (.ref (s.heap.objs.size + 4)) { s with heap:=h' }) :
  wpAny (model prog w) A (call (.type "zip") [.ref l1,.ref l2]) Q E s:=by
 refine callType_new F.called_zip (by decide) (F.typeCall_zip_2 _ _) (F.newCall_zip_2 _ _) (fun obj => F.args_object_init_3 obj _ _) F.entry_zip_new (meets_zip_newT l1 l2 xs ys) ⟨p1,p2,?_⟩
 have y1:(zT1 s.heap l1).objs.size = s.heap.objs.size + 1:=Heap.size_push ..
 have y2:(zT2 s.heap l1 l2).objs.size = s.heap.objs.size + 2:=by rw [Heap.size_push,y1]
 have y3:(zT3 s.heap l1 l2).objs.size = s.heap.objs.size + 3:=by rw [Heap.size_push,y2]
 have y4:(zT4 s.heap l1 l2).objs.size = s.heap.objs.size + 4:=by rw [Heap.size_push,y3]
 have y5:(zT5 s.heap l1 l2).objs.size = s.heap.objs.size + 5:=by rw [Heap.size_push,y4]
 have r5:(zT5 s.heap l1 l2).get? (zT4 s.heap l1 l2).objs.size = some _:=Heap.get?_push_size _ rfl
 have r4:(zT5 s.heap l1 l2).get? (zT3 s.heap l1 l2).objs.size = some _:=Heap.get?_push_of_some _ (Heap.get?_push_size _ rfl)
 have r3:(zT5 s.heap l1 l2).get? (zT2 s.heap l1 l2).objs.size = some _:=Heap.get?_push_of_some _ (Heap.get?_push_of_some _ (Heap.get?_push_size _ rfl))
 have r2:(zT5 s.heap l1 l2).get? (zT1 s.heap l1).objs.size = some _:=Heap.get?_push_of_some _ (Heap.get?_push_of_some _ (Heap.get?_push_of_some _ (Heap.get?_push_size _ rfl)))
 have r1:(zT5 s.heap l1 l2).get? s.heap.objs.size = some _:=Heap.get?_push_of_some _ (Heap.get?_push_of_some _ (Heap.get?_push_of_some _ (Heap.get?_push_of_some _ (Heap.get?_push_size _ rfl))))
 show _∧_
 rw [y2,y3,y4] at r5; rw [y1,y2] at r3; rw [y3] at r4; rw [y1] at r2; rw [y4]
 exact ⟨⟨_,r5,rfl⟩,h _ r5 r3 r4 ⟨_,r1,rfl,rfl⟩ ⟨_,r2,rfl,rfl⟩ y5 fun c o x => Heap.get?_push_of_some _ (Heap.get?_push_of_some _ (Heap.get?_push_of_some _ (Heap.get?_push_of_some _ (Heap.get?_push_of_some _ x))))⟩
end
end PySem
namespace L2
open PySem PySem.Spec PyProof.Rows
structure SeqK where
 Sq:PySem.W.Frag→Hp→Addr→List V→Prop
 isq:Heap→Addr→Array Value→Prop
 iit:Heap→Addr→Addr→Nat→Prop
structure SeqK.Ok (k:SeqK):Prop where
 get:∀ {X:Cx} {pins:List (Addr × Obj)} {σ:St} {H:Hp} {s:Shared} {a:Addr} {xs:List V},Inv X pins σ H s→k.Sq X.K H a xs→∃ its:List Value,Vals xs its∧k.isq s.heap a its.toArray
 inj:∀ {X:Cx} {pins:List (Addr × Obj)} {σ:St} {H:Hp} {s:Shared} {a:Addr} {xs ys:List V},Inv X pins σ H s→k.Sq X.K H a xs→k.Sq X.K H a ys→xs = ys
 lt:∀ {h:Heap} {a:Addr} {its:Array Value},k.isq h a its→a < h.objs.size
 dr:∀ {prog:Program} {w:World} {A:Around},A.handled = none→∀ (it l:Addr),l ≠ it→∀ items:Array Value,Draws prog w A it [it,l] items.size (fun i v => items[i]? = some v) (fun i h => k.iit h it l i∧k.isq h l items)
 obj:∀ {h:Heap} {it l:Addr} {i:Nat},k.iit h it l i→∃ o,h.get? it = some o∧∀ v,o.data ≠ .cell v
 «at»:∀ {h h':Heap} {it l:Addr} {i:Nat},k.iit h it l i→(∀ o,h.get? it = some o→h'.get? it = some o)→k.iit h' it l i
 zip:∀ {prog:Program} {w:World} {A:Around} {E:Value→Shared→Prop} {s:Shared} {l1 l2:Addr} {xs ys:Array Value} {Q:Value→Shared→Prop},k.isq s.heap l1 xs→k.isq s.heap l2 ys →
  (∀ h',IsZip h' (s.heap.objs.size + 4) (s.heap.objs.size + 2) (s.heap.objs.size + 3) .none→IsPair h' (s.heap.objs.size + 2) (.ref s.heap.objs.size) (.ref (s.heap.objs.size + 1))→IsPair h' (s.heap.objs.size + 3) .none .none →
   k.iit h' s.heap.objs.size l1 0→k.iit h' (s.heap.objs.size + 1) l2 0→(∀ c o,s.heap.get? c = some o→h'.get? c = some o)→Q (.ref (s.heap.objs.size + 4)) { s with heap:=h' })→wpAny (model prog w) A (call (.type "zip") [.ref l1,.ref l2]) Q E s
noncomputable def kL:SeqK:=⟨SqL,Heap.IsList,Heap.IsListIter⟩
noncomputable def kT:SeqK:=⟨SqT,Heap.IsTuple,Heap.IsTupleIter⟩
theorem kL_ok:kL.Ok where
 get:=fun I h => let ⟨its,r,p,_⟩:=I.list h; ⟨its,r,p.isList⟩
 inj:=fun I h1 h2 => I.list_inj h1 h2
 lt:=fun p => let ⟨o,ho,_⟩:=p; Heap.lt_size ho
 dr:=fun hh it l hne items => Draws.list hh it l hne items
 obj:=fun ⟨o,e,c,d⟩ => ⟨o,e,fun v z => by rw [d] at z; cases z⟩
 «at»:=fun x k => Heap.IsListIter.at x k
 zip:=fun p1 p2 h => call_zip_2 p1 p2 fun h' a1 a2 a3 a4 a5 _ a7 => h h' a1 a2 a3 a4 a5 a7
theorem kT_ok:kT.Ok where
 get:=fun I h => let ⟨its,r,p,_⟩:=I.tuple h; ⟨its,r,p⟩
 inj:=fun I h1 h2 => I.tuple_inj h1 h2
 lt:=fun p => let ⟨o,ho,_⟩:=p; Heap.lt_size ho
 dr:=fun hh it l hne items => Draws.tuple hh it l hne items
 obj:=fun ⟨o,e,c,d⟩ => ⟨o,e,fun v z => by rw [d] at z; cases z⟩
 «at»:=fun x k => Heap.IsTupleIter.at x k
 zip:=fun p1 p2 h => call_zip_T p1 p2 fun h' a1 a2 a3 a4 a5 _ a7 => h h' a1 a2 a3 a4 a5 a7
noncomputable def Itz (S1 S2:Hp→List V→Prop):It :=
 ⟨fun i H => ∃ xs ys x y,S1 H xs∧S2 H ys∧xs[i]? = some x∧ys[i]? = some y,fun i H v H' => ∃ p x y,v = .ref p∧H p = none∧H' = upd H p (.tup [x,y])∧(∀ xs,S1 H xs→xs[i]? = some x)∧∀ ys,S2 H ys→ys[i]? = some y,fun i H => ∃ xs,S1 H xs∧xs.length = i⟩
theorem turn_zip {P:Program} {w:World} {K:PySem.W.Frag} {es:List Expr} {x1} {pos:Pos} {k:SeqK} (ok:k.Ok) (z TI TO i1 i2 a b:Addr) (D:ZipFar z TI TO i1 i2 [i1,a] [i2,b]) (ha:a ≠ i1) (hb:b ≠ i2) :
  Turn P w K (.Tuple es x1 pos) (Itz (fun H xs => k.Sq K H a xs) fun H ys => k.Sq K H b ys) [z,TI,TO,i1,i2] z (fun i h => IsZip h z TI TO .none∧IsPair h TI (.ref i1) (.ref i2)∧(∃ u v,IsPair h TO u v)∧k.iit h i1 a i∧k.iit h i2 b i) where
 mem:=by simp
 obj:=fun i h st c hc => by
  obtain ⟨hz,hTI,⟨u,v,hTO⟩,h1,h2⟩:=st
  simp only [List.mem_cons,List.not_mem_nil,or_false] at hc
  rcases hc with rfl | rfl | rfl | rfl | rfl
  ·exact ⟨_,hz,fun v z => by cases z⟩
  ·exact ⟨_,hTI,fun v z => by cases z⟩
  ·exact ⟨_,hTO,fun v z => by cases z⟩
  ·exact ok.obj h1
  ·exact ok.obj h2
 keep:=fun i h h' st kp => by
  obtain ⟨hz,hTI,⟨u,v,hTO⟩,h1,h2⟩:=st
  exact ⟨kp z (by simp) _ hz,kp TI (by simp) _ hTI,⟨u,v,kp TO (by simp) _ hTO⟩,ok.at h1 fun o q => kp i1 (by simp) o q,ok.at h2 fun o q => kp i2 (by simp) o q⟩
 item:=by
  intro X hP hw hK hc i pins s σ H E I hf st hg
  subst hP hw hK
  obtain ⟨hz,hTI,⟨u,v,hTO⟩,h1,h2⟩:=st
  obtain ⟨xs,ys,x,y,q1,q2,e1,e2⟩:=hg
  obtain ⟨its,rv,p1⟩:=ok.get I q1
  obtain ⟨jts,rw',p2⟩:=ok.get I q2
  obtain ⟨ux,hux,rx⟩:=rv.get e1
  obtain ⟨uy,huy,ry⟩:=rw'.get e2
  have l1:i < its.toArray.size:=by rw [List.size_toArray]; exact (List.getElem?_eq_some_iff.mp hux).1
  have l2:i < jts.toArray.size:=by rw [List.size_toArray]; exact (List.getElem?_eq_some_iff.mp huy).1
  have hh:X.A.in1.handled = none:=by simp [I.ok.hd hc]
  refine nextZ_item (ok.dr hh i1 a ha its.toArray) (ok.dr hh i2 b hb jts.toArray) D hz hTI hTO ⟨h1,p1⟩ ⟨h2,p2⟩ l1 l2 fun vx vy h' tk hvx hvy g1 g2 g3 g4 g5 g6 => ?_
  have ex:vx = ux:=by
   have e:its[i]? = some vx:=by simpa using hvx
   rw [hux] at e; exact (Option.some.inj e).symm
  have ey:vy = uy:=by
   have e:jts[i]? = some vy:=by simpa using hvy
   rw [huy] at e; exact (Option.some.inj e).symm
  subst ex ey
  refine ⟨_,rfl,wpAny_letOwnedTupleGo_zip (s:={ s with heap:=h',toks:=tk }) g1 fun h2' hz2 hs2 => ?_⟩
  have hn:H s.heap.objs.size = none:=I.hok.fresh (Nat.le_refl _)
  have lz:∀ {c o},s.heap.get? c = some o→s.heap.objs.size ≠ c:=fun e => Nat.ne_of_gt (Heap.lt_size e)
  have li1:s.heap.objs.size ≠ i1:=let ⟨o,e,_⟩:=ok.obj h1; lz e
  have li2:s.heap.objs.size ≠ i2:=let ⟨o,e,_⟩:=ok.obj h2; lz e
  have kp:∀ c o,c ∉ [z,TI,TO,i1,i2]→s.heap.get? c = some o→h2'.get? c = some o:=fun c o hc' q => by
   have c1:c ≠ z:=fun e => hc' (by simp [e])
   exact (hs2.2 c c1).trans (g6 c o c1 (fun e => hc' (by simp [e])) (fun e => hc' (by simp [e])) (fun e => hc' (by simp [e])) q)
  have hT2:IsPair h2' s.heap.objs.size vx vy:=(hs2.2 _ (lz hz)).trans g5
  have I2:Inv X pins σ (upd H s.heap.objs.size (.tup [x,y])) { s with heap:=h2',toks:=tk }:=I.turnLaid (fp:=[z,TI,TO,i1,i2]) kp hf (Nat.le_refl _) ⟨by show 2 ≤ sizeLine; rw [sizeLine_eq]; decide,[vx,vy],.cons rx (.cons ry .nil),⟨_,hT2,rfl,_,rfl⟩⟩
  have hTI2:IsPair h2' TI (.ref i1) (.ref i2):=(hs2.2 _ D.Iz).trans (g6 _ _ D.Iz D.IO D.I1 D.I2 hTI)
  refine ⟨.ref s.heap.objs.size,_,I2,rfl,⟨s.heap.objs.size,x,y,rfl,hn,rfl,fun zs hz' => by rw [ok.inj I hz' q1]; exact e1,fun zs hz' => by rw [ok.inj I hz' q2]; exact e2⟩,⟨hz2,hTI2,⟨_,_,(hs2.2 _ D.Oz).trans g2⟩,ok.at g3.1 fun o q => (hs2.2 _ D.iz).trans q,ok.at g4.1 fun o q => (hs2.2 _ D.jz).trans q⟩,fun c hc' => ?_⟩
  have hcz:c ≠ s.heap.objs.size:=by
   simp only [List.mem_cons,List.not_mem_nil,or_false] at hc'
   rcases hc' with rfl | rfl | rfl | rfl | rfl
   ·exact (lz hz).symm
   ·exact (lz hTI).symm
   ·exact (lz hTO).symm
   ·exact li1.symm
   ·exact li2.symm
  rw [upd_ne hcz]; exact (hf c hc').1
 done:=by
  intro X hP hw hK hc i pins s σ H E I hf st hg
  subst hP hw hK
  obtain ⟨hz,hTI,⟨u,v,hTO⟩,h1,h2⟩:=st
  obtain ⟨xs,q1,hx⟩:=hg
  obtain ⟨its,rv,p1⟩:=ok.get I q1
  have hl:=rv.length
  have hi:its.toArray.size = i:=by rw [List.size_toArray,← hl,hx]
  have hh:X.A.in1.handled = none:=by simp [I.ok.hd hc]
  refine nextZ_end (ok.dr hh i1 a ha its.toArray) D hz hTI (by rw [hi]; exact ⟨h1,p1⟩) fun h' hk => ⟨rfl,?_⟩
  exact I.turnedL (fp:=[z,TI,TO,i1,i2]) (t':=s.toks) (fun c o hc' q => hk c o (fun e => hc' (by simp [e])) (fun e => hc' (by simp [e])) q) hf
 self:=fun _ _ _ _ _ st h => wpAny_pyIter_zip st.1 h
noncomputable def iZip (k:SeqK) (K:PySem.W.Frag) (ta:TA):TI:=fun σ H R => ta σ H fun vs H1 => ∃ a b xs ys,vs = [.ref a,.ref b]∧k.Sq K H1 a xs∧k.Sq K H1 b ys∧R (Itz (fun H xs => k.Sq K H a xs) fun H ys => k.Sq K H b ys) H1
section
variable {X:Cx}
theorem pi_zip {a b:Expr} {ta:TA} {p pos:Pos} {es:List Expr} {x1} {tpos:Pos} {k:SeqK} (ok:k.Ok) (hg:Gl X "zip") (hm:X.mg "zip" = none) (ha:PA X [a,b] ta) (hs:starEach [a,b] X.env = [(false,eval a X.env),(false,eval b X.env)]:=by rfl) (hs2:starEach [b] X.env = [(false,eval b X.env)]:=by rfl) :
  PI X (.Tuple es x1 tpos) (.Call (.Name "zip" p) [a,b] [] pos) (iZip k X.K ta):=by
 intro pins s σ H R I h
 refine Call_ (ld_blt I hg hm boot_zip (PyProof.Rows.callWith_type1 (thn (ha pos pins s σ H _ I h) fun us s1 ⟨vs,H1,I1,r1,q1⟩ => ?_) (by rw [hs,hs2]) (by rw [hs2]; rfl)))
 obtain ⟨a',b',xs,ys,e,q1,q2,q⟩:=q1
 subst e
 obtain ⟨u,v,rfl,rx,ry⟩:=vals2 r1
 cases rx
 cases ry
 obtain ⟨its,rv,p1⟩:=ok.get I1 q1
 obtain ⟨jts,rw',p2⟩:=ok.get I1 q2
 have l1:=ok.lt p1
 have l2:=ok.lt p2
 refine ok.zip p1 p2 fun h' a1 a2 a3 a4 a5 a7 => ?_
 refine wpAny_pyIter_zip (s:={ s1 with heap:=h' }) a1 ?_
 have I2:Inv X pins σ H1 { s1 with heap:=h' }:=I1.kept (t':=s1.toks) a7
 have far:=zipFar_new s1.heap.objs.size a' b' l1 l2
 refine ⟨s1.heap.objs.size + 4,[s1.heap.objs.size + 4,s1.heap.objs.size + 2,s1.heap.objs.size + 3,s1.heap.objs.size,s1.heap.objs.size + 1],_,_,H1,rfl,I2,turn_zip ok _ _ _ _ _ a' b' far (Nat.ne_of_lt l1) (Nat.ne_of_lt (Nat.lt_succ_of_lt l2)),⟨a1,a2,⟨_,_,a3⟩,a4,a5⟩,fun c hc' => ?_,q⟩
 have hge:s1.heap.objs.size ≤ c:=by
  simp only [List.mem_cons,List.not_mem_nil,or_false] at hc'
  rcases hc' with rfl | rfl | rfl | rfl | rfl
  ·exact Nat.le_add_right _ 4
  ·exact Nat.le_add_right _ 2
  ·exact Nat.le_add_right _ 3
  ·exact Nat.le_refl _
  ·exact Nat.le_succ _
 exact I1.fpOk hge (I1.hok.fresh hge)
theorem for_zip {S1 S2:Hp→List V→Prop} {xs ys:List V} {g:TG} {tb:TS} {D:Ends} {σ:St} {H:Hp} (hlen:xs.length = ys.length) (Pv:Nat→St→Hp→Prop) (h0:Pv 0 σ H) (hl:∀ i σ H,Pv i σ H→S1 H xs∧S2 H ys)
  (hs:∀ i x y p σ H,xs[i]? = some x→ys[i]? = some y→Pv i σ H→H p = none→g (.ref p) σ (upd H p (.tup [x,y])) fun σ2 H2 => tb { D with nx:=Pv (i + 1),ct:=Pv (i + 1),bk:=D.nx } σ2 H2) (hd:∀ σ H,Pv xs.length σ H→D.nx σ H) :
  tForJ (Itz S1 S2) g tb D σ H:=by
 refine ⟨fun i m σ H => m = xs.length - i∧i ≤ xs.length∧Pv i σ H,⟨xs.length,by simp,Nat.zero_le _,h0⟩,?_⟩
 rintro i m σ H ⟨rfl,hi,p⟩
 obtain ⟨q1,q2⟩:=hl i σ H p
 by_cases hlt:i < xs.length
 ·have hlt2:i < ys.length:=by omega
  refine .inr ⟨⟨xs,ys,xs[i],ys[i],q1,q2,by simp [hlt],by simp [hlt2]⟩,Pv (i + 1),fun σ' H' p' => ⟨xs.length - (i + 1),by omega,rfl,hlt,p'⟩,fun x H' y => ?_⟩
  obtain ⟨pp,a,b,e1,e2,e3,e4,e5⟩:=y
  subst e1 e3
  exact hs i a b pp σ H (e4 xs q1) (e5 ys q2) p e2
 ·have e:i = xs.length:=by omega
  subst e
  exact .inl ⟨⟨xs,q1,rfl⟩,hd σ H p⟩
end
end L2
namespace L2
open PySem PySem.Spec PyProof.Rows
section
variable {X:Cx}
theorem preSum_take (ns:List Int):∀ j:Nat,preSum (fun i => (ns[i]?).getD 0) j = (ns.take j).sum
 | 0 => by simp [preSum]
 | j + 1 => by
  have ih:=preSum_take ns j
  rw [List.take_succ,List.sum_append]
  show preSum (fun i => (ns[i]?).getD 0) j + (ns[j]?).getD 0 = _
  rw [ih]
  cases ns[j]? <;> simp
theorem sum_small {B:Int} (hB:0 ≤ B):∀ {ns:List Int},(∀ n ∈ ns, -B ≤ n∧n ≤ B)→-(B * ns.length) ≤ ns.sum∧ns.sum ≤ B * ns.length
 | [],_ => by simp
 | n :: ns,h => by
  have ih:=sum_small hB (ns:=ns) fun m hm => h m (List.mem_cons_of_mem _ hm)
  have h0:=h n List.mem_cons_self
  rw [List.sum_cons,List.length_cons]
  have e:B * ((ns.length + 1:Nat):Int) = B * (ns.length:Int) + B:=by
   rw [Int.natCast_add,Int.mul_add]; simp
  rw [e]
  constructor <;> omega
theorem call_sumI (hc:X.calm = true):CallR X (.builtin "sum") (fun xs H Q => ∃ (p:Addr) (ns:List Int),xs = [.ref p]∧SqL X.K H p (ns.map V.int)∧ns.length ≤ 1000∧(∀ n ∈ ns, -1000 ≤ n∧n ≤ 1000)∧Q (.int ns.sum) H):=by
 intro pins s σ H xs us Q I r h
 obtain ⟨p,ns,rfl,hq,hl,hn,q⟩:=h
 obtain ⟨u,rfl,rx⟩:=vals1 r
 cases rx
 obtain ⟨its,rv,pl,hz⟩:=I.list hq
 have hlen:=rv.length
 rw [List.length_map] at hlen
 have hlt:p < s.heap.objs.size:=by obtain ⟨_,e,_⟩:=pl.isList; exact Heap.lt_size e
 have long:∀ z:Int, -1000000 ≤ z→z ≤ 1000000→InLong z:=fun z h1 h2 => by unfold InLong; omega
 refine call_sum_walk (wpAny_pyIter_list pl.isList ?_)
 refine ⟨s.heap.objs.size,[s.heap.objs.size,p],[s.heap.objs.size],its.toArray.size,_,_,fun i => (ns[i]?).getD 0,rfl,Walks.list (A:=X.A.in1) (by simp [I.ok.hd hc]) _ p (Nat.ne_of_lt hlt) its.toArray,⟨⟨_,Heap.get?_push_size _ rfl,rfl,rfl⟩,pl.isList.push _⟩,fun b hb => ?_,fun i v hP => ?_,fun j hj => ?_,fun h' tk t' hk => ?_⟩
 ·show b < (s.heap.push _).objs.size
  rw [Heap.size_push]
  rcases List.mem_cons.mp hb with z | z
  ·rw [z]; exact Nat.lt_succ_self _
  ·rw [List.mem_singleton.mp z]; exact Nat.lt_succ_of_lt hlt
 ·have hP':its[i]? = some v:=by simpa using hP
  have hi:i < ns.length:=by rw [hlen]; exact (List.getElem?_eq_some_iff.mp hP').1
  obtain ⟨u,hu,ru⟩:=rv.get (i:=i) (x:=.int ns[i]) (by rw [List.getElem?_map]; simp [hi])
  rw [hP'] at hu; cases hu
  obtain ⟨t,rfl⟩:=ru
  exact ⟨t,by simp [hi]⟩
 ·have hj':j < ns.length:=by rw [List.size_toArray] at hj; omega
  refine ⟨?_,?_⟩
  ·have:=hn ns[j] (List.getElem_mem hj')
   have e:(ns[j]?).getD 0 = ns[j]:=by simp [hj']
   show InLong ((ns[j]?).getD 0)
   rw [e]; exact long _ (by omega) (by omega)
  ·rw [preSum_take]
   have:=sum_small (B:=1000) (by decide) (ns:=ns.take (j + 1)) fun n h => hn n (List.mem_of_mem_take h)
   have h2:(ns.take (j + 1)).length ≤ 1000:=by rw [List.length_take]; omega
   exact long _ (by omega) (by omega)
 ·have e:preSum (fun i => (ns[i]?).getD 0) its.toArray.size = ns.sum:=by
   rw [preSum_take,List.size_toArray,← hlen,List.take_of_length_le (Nat.le_refl _)]
  rw [e]
  exact ⟨.int _,H,I.kept (h':=h') (t':=tk) (LSm.kept_iter hk),⟨_,rfl⟩,q⟩
theorem eq_place {pins:List (Addr × Obj)} {σ:St} {H:Hp} {s:Shared} {A:Around} {a p:Addr} {c d:Int × Int} (I:Inv X pins σ H s) (hu:A.units < cLine) (ha:H a = some (.tup [.int d.1,.int d.2])) (hp:H p = some (.tup [.int c.1,.int c.2])):SeqAt.EqAt A s (.ref a) (.ref p) (decide (d = c)):=by
 by_cases hap:a = p
 ·subst hap
  rw [ha] at hp
  have e:d = c:=by
   injection hp with z; injection z with z; injection z with z1 z2; injection z2 with z2 _
   exact Prod.ext (V.int.inj z1) (V.int.inj z2)
  rw [decide_eq_true e]
  exact SeqAt.EqAt.same _
 ·obtain ⟨its,r1,p1,_⟩:=I.tuple (SqT.of ha)
  obtain ⟨jts,r2,p2,_⟩:=I.tuple (SqT.of hp)
  obtain ⟨x1,x2,rfl,⟨t1,rfl⟩,⟨t2,rfl⟩⟩:=r1.two
  obtain ⟨y1,y2,rfl,⟨u1,rfl⟩,⟨u2,rfl⟩⟩:=r2.two
  have key:SeqAt.RcAt A s (.ref a) (.ref p) ((List.range (min 2 2)).all (fun j => if j = 0 then d.1 == c.1 else d.2 == c.2) && (2:Nat) == 2):=SeqAt.RcAt.tuples (items:=#[.int d.1 t1,.int d.2 t2]) (items2:=#[.int c.1 u1,.int c.2 u2]) p1 p2 hu fun j h1 h2 => by
   match j,h1,h2 with
   | 0,_,_ => exact SeqAt.EqAt.int_int _ _ _ _
   | 1,_,_ => exact SeqAt.EqAt.int_int _ _ _ _
  have e:((List.range (min 2 2)).all (fun j => if j = 0 then d.1 == c.1 else d.2 == c.2) && (2:Nat) == 2) = decide (d = c):=by
   obtain ⟨d1,d2⟩:=d
   obtain ⟨c1,c2⟩:=c
   show (List.all [0,1] _ && true) = _
   simp only [List.all_cons,List.all_nil,Bool.and_true,if_true,Nat.one_ne_zero,if_false]
   rw [Bool.eq_iff_iff]
   simp
  rw [e] at key
  exact SeqAt.EqAt.of_refs hap key
noncomputable def rInP:R2:=fun x y H Q => ∃ p l ps cs c,x = .ref p∧y = .ref l∧H p = some (.tup [.int c.1,.int c.2])∧H l = some (.lst (ps.map V.ref))∧PlAt H ps cs∧Q (.bl (decide (c ∈ cs))) H
theorem any_place {H:Hp} {c:Int × Int} {e:Value→Bool} (he:∀ a d,H a = some (.tup [.int d.1,.int d.2])→e (.ref a) = decide (d = c)):∀ {ps:List Addr} {cs:List (Int × Int)} {us:List Value},PlAt H ps cs→Vals (ps.map V.ref) us→us.any e = decide (c ∈ cs)
 | _,_,_,.nil,.nil => by simp
 | p :: ps,d :: cs,u :: us,.cons h t,.cons r v => by
  cases (show u = Value.ref p from r)
  rw [List.any_cons,he p d h,any_place he t v,Bool.eq_iff_iff]
  simp only [Bool.or_eq_true,decide_eq_true_eq,List.mem_cons]
  constructor
  ·rintro (z | z)
   ·exact .inl z.symm
   ·exact .inr z
  ·rintro (z | z)
   ·exact .inl z.symm
   ·exact .inr z
theorem mem_place {H:Hp}:∀ {ps:List Addr} {cs:List (Int × Int)} {us:List Value},PlAt H ps cs→Vals (ps.map V.ref) us→∀ u ∈ us,∃ (a:Addr) (d:Int × Int),u = .ref a∧H a = some (.tup [.int d.1,.int d.2])
 | _,_,_,.nil,.nil => fun u hu => by cases hu
 | p :: ps,d :: cs,u :: us,.cons h t,.cons r v => fun w hw => by
  cases (show u = Value.ref p from r)
  rcases List.mem_cons.mp hw with z | z
  ·exact ⟨p,d,z,h⟩
  ·exact mem_place t v w z
open Classical in
theorem op_inP (hu:X.A.units + 1 < cLine):OpR X (compareOp .In) rInP:=by
 intro pins s σ H x y v u Q I rx ry h
 obtain ⟨p,l,ps,cs,c,rfl,rfl,hp,hl,hP,q⟩:=h
 cases rx
 cases ry
 obtain ⟨its,r,pl,hz⟩:=I.list (SqL.of hl)
 let e:Value→Bool:=fun y => decide (∃ a,y = .ref a∧H a = some (.tup [.int c.1,.int c.2]))
 have he:∀ a d,H a = some (.tup [.int d.1,.int d.2])→e (.ref a) = decide (d = c):=fun a d ha => by
  show decide (∃ a',Value.ref a = .ref a'∧_) = _
  rw [Bool.eq_iff_iff]
  simp only [decide_eq_true_eq]
  constructor
  ·rintro ⟨a',z1,z2⟩
   cases z1
   rw [ha] at z2
   injection z2 with z; injection z with z; injection z with z1 z2; injection z2 with z2 _
   exact Prod.ext (V.int.inj z1) (V.int.inj z2)
  ·intro z
   subst z
   exact ⟨a,rfl,ha⟩
 refine SeqAt.in_listAt e pl.isList (fun y hy => ?_) ⟨.bl _,H,I,rfl,?_⟩
 ·obtain ⟨a,d,rfl,ha⟩:=mem_place hP r y (by simpa using hy)
  rw [he a d ha]
  exact eq_place I (show X.A.units + 1 < cLine from hu) ha hp
 ·rw [show its.toArray.any e = its.any e by simp,any_place he hP r]
  exact q
theorem op_eqB (hu:X.A.units < cLine):OpR X (compareOp .Eq) (fun x y H Q => ∃ a b bs,x = .ref a∧y = .ref b∧H a = some (.lst ((bs:List Bool).map V.bl))∧H b = some (.lst (bs.map V.bl))∧Q (.bl true) H):=by
 intro pins s σ H x y v u Q I rx ry h
 obtain ⟨a,b,bs,rfl,rfl,ha,hb,q⟩:=h
 cases rx
 cases ry
 obtain ⟨its,r1,p1,_⟩:=I.list (SqL.of ha)
 obtain ⟨jts,r2,p2,_⟩:=I.list (SqL.of hb)
 have e:its = jts:=by
  have go:∀ (bs:List Bool) (us ws:List Value),Vals (bs.map V.bl) us→Vals (bs.map V.bl) ws→us = ws:=by
   intro bs
   induction bs with
   | nil => intro us ws h1 h2; cases h1; cases h2; rfl
   | cons b bs ih =>
    intro us ws h1 h2
    cases h1 with
    | cons a1 a2 =>
     cases h2 with
     | cons b1 b2 =>
      rw [show _ = Value.bool b from a1,show _ = Value.bool b from b1,ih _ _ a2 b2]
  exact go bs its jts r1 r2
 subst e
 refine SeqAt.eq_listAt (e:=fun _ => true) p1.isList p2.isList rfl hu (fun j h1 h2 => SeqAt.EqAt.same _) ⟨.bl true,H,I,?_,q⟩
 show Value.bool _ = Value.bool true
 congr 1
 simp
end
end L2
namespace L2
open PySem PySem.Spec PyProof.Rows
theorem ObjOk.isThere {P:Program} {w:World} {H:Hp} {h:Heap} {a:Addr} {o:HO} (x:ObjOk P w H h a o):∃ u,h.get? a = some u:=by
 cases o with
 | lst xs => obtain ⟨_,_,_,_,e⟩:=x; exact ⟨_,e⟩
 | tup xs => obtain ⟨_,_,_,u,e,_⟩:=x; exact ⟨u,e⟩
 | dK kvs => obtain ⟨_,_,_,_,o,_,_,e,_⟩:=x; exact ⟨_,e⟩
 | dT kvs => obtain ⟨_,_,_,_,o,_,_,e,_⟩:=x; exact ⟨_,e⟩
 | set S n => obtain ⟨o,_,_,_,e,_⟩:=x; exact ⟨_,e⟩
 | ins C dx fs => obtain ⟨_,_,_,e,_⟩:=x; exact ⟨_,e⟩
 | own y => exact x
 | xd fs => obtain ⟨_,⟨_,_,_,e,_⟩,_⟩:=x; exact ⟨_,e⟩
 | rng lo hi => obtain ⟨_,_,_,e⟩:=x; exact ⟨_,e⟩
 | frz ob u => obtain ⟨e,_⟩:=x; exact ⟨_,e⟩
 | tbl ps => exact ⟨_,(show h.get? a = some _ from x)⟩
 | met f y => exact ⟨_,(show h.get? a = some _ from x)⟩
 | ext φ => obtain ⟨_,e,_⟩:=x; exact e
theorem HOk.tracked {P:Program} {w:World} {H:Hp} {h h':Heap} (ok:HOk P w H h) (k:∀ b u o,H b = some u→h.get? b = some o→h'.get? b = some o):HOk P w H h':=fun a o e =>
 (ok a o e).stay (fun b u hb q => by
  rcases hb with z | z
  ·subst z; exact k _ _ _ e q
  ·exact k _ _ _ z q) (fun _ q => q) fun _ _ q => q
structure Fly (P:Program) (w:World) (outer:List Env) (H:Hp) (s:Shared) (e:Addr) (cls:Value) (H':Hp) (s':Shared):Prop where
 os:s'.os = s.os
 bare:AllBare s'.gens
 un:Un (frs outer) [] H H' s.heap s'.heap
 hok:HOk P w H' s'.heap
 fly:∃ B a0,Heap.FlyingW B outer e cls a0 s'.heap∧(∀ b o,s.heap.get? b = some o→H b = none→b ∉ frs outer→B.get? b = some o)∧(∀ b o,s.heap.get? b = some o→b ∉ frs outer→∃ o',B.get? b = some o')∧∀ b u,H' b = some u→∃ o,B.get? b = some o
noncomputable def CX1 (P:Program) (w:World):CXT:=fun outer H s E e s' => ∃ a cls H',e = .ref a∧Fly P w outer H s a cls H' s'∧E cls none H'
theorem frs_cons {env:Env} {l:List Env} {b:Addr} (h:b ∈ frs l):b ∈ frs (env :: l):=by
 obtain ⟨e,he,hb⟩:=List.mem_filterMap.mp h
 exact List.mem_filterMap.mpr ⟨e,List.mem_cons_of_mem _ he,hb⟩
section
variable {X:Cx} {pins:List (Addr × Obj)} {σ:St} {H H':Hp} {s s':Shared} {cls:Value} {e:Addr} {Q:Unit→Shared→Prop} {E':Value→Shared→Prop}
theorem Inv.notOwn (I:Inv X pins σ H s) {b:Addr} {o:Obj} (q:X.s₀.heap.get? b = some o) (hb:b ∉ X.fs):b ∉ frs X.stack:=fun hm => by
 rcases List.mem_cons.mp (I.stkSub b hm) with z | z
 ·exact absurd (Nat.lt_of_lt_of_le (Heap.lt_size q) I.ok.above) (by rw [z]; exact Nat.lt_irrefl _)
 ·exact hb z
theorem raise_out (I:Inv X pins σ H s) (hs:X.stack = X.env :: X.outer) (hf:X.env.frame = some X.env.locals) (hex:X.ex = []) {h1:Heap} {args:List Value} (hx:Heap.MadeExcOf s.heap h1 e cls args)
  (k:∀ h',Fly X.prog X.w X.outer X.H₀ X.s₀ e cls H { s with heap:=h' }→Q () { s with heap:=h' }):wpAny (model X.prog X.w) X.A (leaving X.env (.ref e)) Q E' { s with heap:=h1 }:=by
 have st:s.heap.FunFrames X.base X.stack:=I.stack
 have hin:∀ env ∈ X.stack,∀ b,env.frame = some b→b ∈ frs X.stack:=fun env he b hb => List.mem_filterMap.mpr ⟨env,he,hb⟩
 have fB:=PySem.W.funFrames_hide (as:=frs X.stack) st hin
 have hfr:=I.ok.frames
 rw [hs] at hfr fB
 refine wpAny_leaves_madeW (base:=PySem.W.hideAll s.heap (frs X.stack)) (h:=s.heap) hfr hf (fun b o q => PySem.W.of_hideAll _ q) (by rw [hs]; exact fB) hx fun h' t x1 x2 x3 x4 => k h' ?_
 have nex:∀ b,b ∉ X.ex:=fun b hb => by rw [hex] at hb; cases hb
 have kB:∀ b o,s.heap.get? b = some o→b ∉ frs X.stack→(PySem.W.hideAll s.heap (frs X.stack)).get? b = some o:=fun b o q n => PySem.W.hideAll_get _ q n
 have kS:∀ b o,s.heap.get? b = some o→b ∈ frs X.stack→∃ sl,h'.get? b = some { o with slots:=sl }:=fun b o q hb => x4 b o (hx.keeps b o q) (by
  obtain ⟨_,o',ho',hd⟩:=st.mem hb
  rw [q] at ho'; cases ho'; exact hd)
 have kT:∀ b u,H b = some u→b ∉ frs X.stack:=fun b u q hb => by
  have:=I.stkFree b hb
  rw [q] at this; cases this
 have up:∀ {b:Addr},b ∈ X.fs→b ∈ frs X.stack:=fun hb => by rw [hs]; exact frs_cons hb
 refine ⟨I.os,I.bare,⟨fun b o q n hb _ => ?_,fun b o q n hb _ => ?_,fun b o q n _ => I.base.free b o q n (nex b),fun b o q _ => ?_,I.base.tups,I.base.frzs,I.base.tbls⟩,I.hok.tracked fun b u o q z => x1.1 b o (kB b o z (kT b u q)),_,_,x1,fun b o q n hb => ?_,fun b o q hb => ?_,fun b u q => ?_⟩
 ·exact x1.1 b o (kB b o (I.base.keep b o q n hb (nex b)) (I.notOwn q hb))
 ·obtain ⟨sl,e1⟩:=I.base.slot b o q n hb (nex b)
  obtain ⟨sl',e2⟩:=kS b _ e1 (up hb)
  exact ⟨sl',e2⟩
 ·obtain ⟨o',e1⟩:=I.base.there b o q (nex b)
  by_cases hm:b ∈ frs X.stack
  ·obtain ⟨sl,e2⟩:=kS b o' e1 hm; exact ⟨_,e2⟩
  ·exact ⟨o',x1.1 b o' (kB b o' e1 hm)⟩
 ·exact kB b o (I.base.keep b o q n hb (nex b)) (I.notOwn q hb)
 ·obtain ⟨o',e1⟩:=I.base.there b o q (nex b)
  exact ⟨o',kB b o' e1 (I.notOwn q hb)⟩
 ·obtain ⟨o,e1⟩:=(I.hok b u q).isThere
  exact ⟨o,kB b o e1 (kT b u q)⟩
theorem Fly.over (I:Inv X pins σ H s) (hs:X.stack = X.env :: X.outer) (hex:X.ex = []) (F:Fly X.prog X.w X.stack H s e cls H' s') {B:Heap} {a0:Value} (hfl:Heap.FlyingW B X.stack e cls a0 s'.heap)
  (g1:∀ b o,s.heap.get? b = some o→H b = none→b ∉ frs X.stack→B.get? b = some o) (g2:∀ b o,s.heap.get? b = some o→b ∉ frs X.stack→∃ o',B.get? b = some o') (g3:∀ b u,H' b = some u→∃ o,B.get? b = some o)
  {h':Heap} (hfl':Heap.FlyingW B X.outer e cls a0 h') (hu:s'.heap.UpToSlots h'):Fly X.prog X.w X.outer X.H₀ X.s₀ e cls H' { s' with heap:=h' }:=by
 have nex:∀ b,b ∉ X.ex:=fun b hb => by rw [hex] at hb; cases hb
 have up:∀ {b:Addr},b ∈ X.fs→b ∈ frs X.stack:=fun hb => by rw [hs]; exact frs_cons hb
 have kS:∀ b o,s'.heap.get? b = some o→b ∈ frs X.stack→∃ sl,h'.get? b = some { o with slots:=sl }:=fun b o q hb => hu b o q (by
  obtain ⟨_,o',ho',hd⟩:=hfl.2.2.1.mem hb
  rw [q] at ho'; cases ho'; exact hd)
 refine ⟨F.os.trans I.os,F.bare,⟨fun b o q n hb _ => ?_,fun b o q n hb _ => ?_,fun b o q n _ => ?_,fun b o q _ => ?_,fun b xs q => F.un.tups b xs (I.base.tups b xs q),fun b o u q => F.un.frzs b o u (I.base.frzs b o u q),fun b ps q => ?_⟩,?_,B,a0,hfl',fun b o q n hb => ?_,fun b o q hb => ?_,g3⟩
 ·exact hfl'.1 b o (g1 b o (I.base.keep b o q n hb (nex b)) (I.base.free b o q n (nex b)) (I.notOwn q hb))
 ·obtain ⟨sl,e1⟩:=I.base.slot b o q n hb (nex b)
  obtain ⟨sl',e2⟩:=F.un.slot b _ e1 (I.base.free b o q n (nex b)) (up hb) (by simp)
  obtain ⟨sl'',e3⟩:=kS b _ e2 (up hb)
  exact ⟨sl'',e3⟩
 ·obtain ⟨o',e1⟩:=I.base.there b o q (nex b)
  exact F.un.free b o' e1 (I.base.free b o q n (nex b)) (by simp)
 ·obtain ⟨o',e1⟩:=I.base.there b o q (nex b)
  by_cases hm:b ∈ frs X.stack
  ·obtain ⟨o2,e2⟩:=F.un.there b o' e1 (by simp)
   obtain ⟨sl,e3⟩:=kS b o2 e2 hm; exact ⟨_,e3⟩
  ·obtain ⟨o2,e2⟩:=g2 b o' e1 hm
   exact ⟨o2,hfl'.1 b o2 e2⟩
 ·obtain ⟨m1,e1⟩:=I.base.tbls b ps q
  obtain ⟨m2,e2⟩:=F.un.tbls b _ e1
  exact ⟨m1 ++ m2,by rw [e2,Array.append_assoc]⟩
 ·refine F.hok.tracked fun b u o q z => ?_
  obtain ⟨o',e1⟩:=g3 b u q
  have:=hfl.1 b o' e1
  rw [z] at this; cases this
  exact hfl'.1 b _ e1
 ·exact g1 b o (I.base.keep b o q n hb (nex b)) (I.base.free b o q n (nex b)) (I.notOwn q hb)
 ·obtain ⟨o',e1⟩:=I.base.there b o q (nex b)
  exact g2 b o' e1 (I.notOwn q hb)
theorem pass_out (I:Inv X pins σ H s) (hs:X.stack = X.env :: X.outer) (hf:X.env.frame = some X.env.locals) (hex:X.ex = []) (F:Fly X.prog X.w X.stack H s e cls H' s')
  (k:∀ h',Fly X.prog X.w X.outer X.H₀ X.s₀ e cls H' { s' with heap:=h' }→Q () { s' with heap:=h' }):wpAny (model X.prog X.w) X.A (leaving X.env (.ref e)) Q E' s':=by
 obtain ⟨B,a0,hfl,g1,g2,g3⟩:=F.fly
 have hfr:=I.ok.frames
 have hfl1:=hfl
 rw [hs] at hfr hfl1
 exact wpAny_leaves_onW hfr hf hfl1 fun h' x1 x2 => k h' (Fly.over I hs hex F hfl g1 g2 g3 x1 x2)
end
theorem pass1 {P:Program} {w:World} {K:PySem.W.Frag} {mg:Str→Option Value} {base:Heap} {N:List Str} {qual:Str} {scope:Scope} {f:Addr} {cd:Value} {A:Around} {outer:List Env} {s:Shared} {H:Hp} {E:XK} :
  Passes (CX1 P w) (cxOf (CX1 P w) P w K mg base N qual scope f cd A outer s H E) E:=by
 intro pins σ H1 s1 e s2 I h
 obtain ⟨a,cls,H',rfl,F,q⟩:=h
 exact pass_out (X:=cxOf (CX1 P w) P w K mg base N qual scope f cd A outer s H E) I rfl rfl rfl F fun h' F' => ⟨a,cls,H',rfl,F',q⟩
noncomputable abbrev bmV:List Value:=[.type "ValueError",.type "Exception",.type "BaseException",.type "object"]
structure ExcC (K:PySem.W.Frag) (C:Addr):Prop where
 ex:PySem.W.excIn K C bmV "ValueError.__new__" = true
theorem ExcC.obj {K:PySem.W.Frag} {C:Addr} {h:Heap} (c:ExcC K C) (X:K.In h):∃ bm N nm q bs hdct sn sub ab col dd k0 k1 k2 k3 k5 mN,
  h.get? C = some (excClassObj nm q C N bs bm hdct sn sub ab col dd k0 k1 k2 k3 k5 "ValueError.__new__")∧h.Ns N mN∧mN "__init__" = none∧OwnTail h bmV bm:=by
 have z:=c.ex
 unfold PySem.W.excIn at z
 split at z
 ·rename_i dct cdat slt look
  split at z
  ·rename_i C2 tl a0 a1 a2 a3 nid a5 m1 m2
   simp only [Bool.and_eq_true,beq_iff_eq,Bool.not_eq_true'] at z
   obtain ⟨⟨⟨⟨⟨rfl,rfl⟩,noDel⟩,tail⟩,isN⟩,noInit⟩:=z
   obtain ⟨y1,y2,y3,y4,y5,y6,y7,y8,y9,y10,y11⟩:=cdat
   dsimp only at m1 noDel isN noInit
   subst m1 noDel
   obtain ⟨ls⟩:=slt
   replace m2:ls = _:=m2
   subst m2
   refine ⟨tl,y4,y1,y5,y2,y6,y7,y8,y9,y10,dct,a0,a1,a2,a3,a5,_,X _ _ look,?_,PySem.W.nsMap_none_of_in X isN noInit,PySem.W.tail_of_in X tail⟩
   exact .of_isNs (PySem.W.isNs_of_in X isN)
  ·cases z
 ·cases z
section
variable {X:Cx} {x:Str} {z:Str} {j:Nat} {np p1 cpos pos:Pos} {C:Addr} {E:XK}
theorem ps_raise (hxe:X.xe = fun e s' => wpAny (model X.prog X.w) X.A (leaving X.env e) (fun _ s'' => CX1 X.prog X.w X.outer X.H₀ X.s₀ E e s'') (fun e' s'' => CX1 X.prog X.w X.outer X.H₀ X.s₀ E e' s'') s')
  (hs:X.stack = X.env :: X.outer) (hf:X.env.frame = some X.env.locals) (hex:X.ex = []) (hc:X.calm = true) (hg:Gl X x) (hm:X.mg x = some (.ref C)) (c:ExcC X.K C) (hd:(x == ("__debug__":Str)) = false:=by decide) :
  PS X (.Raise (some (.Call (.Name x np) [.Constant (.str z) j p1] [] cpos)) none pos) (fun _ _ H => E (.ref C) none H):=by
 intro pins s σ H D I h
 obtain ⟨bm,N,nm,q,bs,hdct,sn,sub,ab,col,dd,k0,k1,k2,k3,k5,mN,hC,hN,hni,T⟩:=c.obj I.ok.mod.kin
 refine wpAny_Raise_call_subT (C:=C) (nm:=nm) (q:=q) (N:=N) (bs:=bs) (bm:=bm) (hdct:=hdct) (sn:=sn) (sub:=sub) (ab:=ab) (col:=col) (dd:=dd) (k0:=k0) (k1:=k1) (k2:=k2) (k3:=k3) (k5:=k5) PySem.F.excBase_ValueError (mN:=mN)
  (T.hasType PySem.F.excBase_ValueError.hasBase) (I.ok.hd hc) rfl hni (ld_glob I hg hm ⟨rfl,?_⟩ hd)
 have ha:PA X [.Constant (.str z) j p1] (tCons (tC (.str z)) tNil):=pa_c pe_str pa_nil
 refine Calls.evalArgs_plain (thn (ha cpos pins s σ H (fun vs H' => H' = H∧vs = [.str z]) I ⟨rfl,rfl⟩) fun us s2 hA => ?_)
 obtain ⟨vs,H2,I2,rv,e1,e2⟩:=hA
 subst e1 e2
 have hl:=rv.length
 refine ⟨rfl,?_,I2.bk _ _ hC,hN.keeps I2.bk,T.keeps I2.bk,fun h' e hx => ?_⟩
 ·show us.length ≤ sizeLine
  rw [← hl]; show 1 ≤ sizeLine; decide
 ·rw [hxe]
  exact raise_out I2 hs hf hex hx fun h2 F => ⟨e,.ref C,_,rfl,F,h⟩
end
noncomputable def Cx.within (X:Cx) (e:Addr) (oe:Obj):Cx:={ X with A:=X.A.mark (some (.ref e)),calm:=false,pn:=(e,oe) :: X.pn,xe:=fun _ _ => False }
noncomputable def Lands (X:Cx) (E:XK):Value→Shared→Prop:=fun v s' => ∃ pins σ H s e cls H',v = .ref e∧Inv X pins σ H s∧Fly X.prog X.w X.stack H s e cls H' s'∧E cls none H'
theorem pass_lands {X:Cx} {E:XK}:Passes (CX1 X.prog X.w) (X.wish (Lands X E)) E:=by
 intro pins σ H s e s' I h
 obtain ⟨a,cls,H',rfl,F,q⟩:=h
 exact ⟨pins,σ,H,s,a,cls,H',rfl,I.unwish,F,q⟩
end L2
namespace L2
open PySem PySem.Spec PyProof.Rows
section
variable {X:Cx} {pins:List (Addr × Obj)} {σ:St} {H H':Hp} {s s':Shared} {cls a0:Value} {e:Addr} {oe:Obj} {B h5:Heap}
theorem Inv.landed (I:Inv X pins σ H s) (F:Fly X.prog X.w X.stack H s e cls H' s') (hfl:Heap.FlyingW B X.stack e cls a0 s'.heap)
  (g1:∀ b o,s.heap.get? b = some o→H b = none→b ∉ frs X.stack→B.get? b = some o) (g2:∀ b o,s.heap.get? b = some o→b ∉ frs X.stack→∃ o',B.get? b = some o') (g3:∀ b u,H' b = some u→∃ o,B.get? b = some o)
  (hB:B.StaysIn h5) (hu:s'.heap.UpToSlots h5):Inv X pins σ H' { s' with heap:=h5 }:=by
 have kS:∀ b o,s'.heap.get? b = some o→b ∈ frs X.stack→∃ sl,h5.get? b = some { o with slots:=sl }:=fun b o q hb => hu b o q (by
  obtain ⟨_,o',ho',hd⟩:=hfl.2.2.1.mem hb
  rw [q] at ho'; cases ho'; exact hd)
 refine I.call' (s':={ s' with heap:=h5 }) (ch:=[]) F.os ⟨fun b o q n hb _ => hB b o (g1 b o q n hb),fun b o q n hb _ => ?_,fun b o q n _ => F.un.free b o q n (by simp),fun b o q _ => ?_,F.un.tups,F.un.frzs,F.un.tbls⟩ (F.hok.tracked fun b u o q z => ?_) F.bare fun b z => nomatch z
 ·obtain ⟨sl,e2⟩:=F.un.slot b o q n hb (by simp)
  obtain ⟨sl',e3⟩:=kS b _ e2 hb
  exact ⟨sl',e3⟩
 ·by_cases hm:b ∈ frs X.stack
  ·obtain ⟨o2,e2⟩:=F.un.there b o q (by simp)
   obtain ⟨sl,e3⟩:=kS b o2 e2 hm; exact ⟨_,e3⟩
  ·obtain ⟨o2,e2⟩:=g2 b o q hm
   exact ⟨o2,hB b o2 e2⟩
 ·obtain ⟨o',e1⟩:=g3 b u q
  have:=hfl.1 b o' e1
  rw [z] at this; cases this
  exact hB b _ e1
theorem Inv.within (I:Inv X pins σ H s) (he:s.heap.get? e = some oe) (hn:H e = none) (hL:e ≠ X.env.locals) (hf:e ∉ X.fs) (hd:∀ v,oe.data ≠ .cell v):Inv (X.within e oe) pins σ H s :=
 ⟨⟨I.ok.mod,I.ok.kind,I.ok.glob,I.ok.blt,I.ok.above,I.ok.inj,I.ok.has,I.ok.cab,fun z => (Bool.false_ne_true z).elim,I.ok.frames,I.ok.stk,I.ok.exf,I.ok.bs,I.ok.bsz,I.ok.noex,I.ok.exfs,I.ok.funs,I.ok.frf⟩,I.os,I.bare,I.base,I.loc,I.cell,I.free,I.freeC,
  fun p hp => by
   rcases List.mem_append.mp hp with z | z
   ·rcases List.mem_cons.mp z with y | y
    ·subst y; exact ⟨he,hn,hL,hf,hd⟩
    ·exact I.pin p (List.mem_append_left _ y)
   ·exact I.pin p (List.mem_append_right _ z),I.hok,I.len⟩
theorem Inv.suiteOver (hc:X.A.handled = none) (I:Inv (X.within e oe) [] σ H s) (hpn:X.pn = []) {h':Heap} {m:Str→Option Value} {t:Nat} (hN:h'.Ns X.env.locals m) (hs:Heap.SameBut X.env.locals s.heap h'):Inv X [] (List.replicate X.N.length none) H { s with heap:=h',toks:=t }:=by
 have below:∀ b o,X.s₀.heap.get? b = some o→b ≠ X.env.locals:=fun b o q => Nat.ne_of_lt (Nat.lt_of_lt_of_le (Heap.lt_size q) I.ok.above)
 refine ⟨⟨I.ok.mod,I.ok.kind,I.ok.glob,I.ok.blt,I.ok.above,I.ok.inj,I.ok.has,I.ok.cab,fun _ => hc,I.ok.frames,I.ok.stk,I.ok.exf,I.ok.bs,I.ok.bsz,I.ok.noex,I.ok.exfs,I.ok.funs,I.ok.frf⟩,I.os,I.bare,
  ⟨fun b o q n hb hx => (hs.2 b (below b o q)).trans (I.base.keep b o q n hb hx),fun b o q n hb hx => let ⟨sl,e1⟩:=I.base.slot b o q n hb hx; ⟨sl,(hs.2 b (below b o q)).trans e1⟩,I.base.free,fun b o q hx => let ⟨o',e1⟩:=I.base.there b o q hx; ⟨o',(hs.2 b (below b o q)).trans e1⟩,I.base.tups,I.base.frzs,I.base.tbls⟩,
  ⟨m,hN,fun i x v _ e2 _ => ?_⟩,fun y c q => ?_,I.free,I.freeC,fun p hp => ?_,I.hok.tracked fun b u o q z => ?_,by simp⟩
 ·rw [List.getElem?_replicate] at e2
  split at e2 <;> cases e2
 ·obtain ⟨w',z⟩:=I.cell y c q
  exact ⟨w',z.sameBut hs (I.cne y c q)⟩
 ·rw [hpn] at hp; cases hp
 ·refine (hs.2 b fun y => ?_).trans z
  have:=I.free
  rw [show (X.within e oe).env.locals = X.env.locals from rfl,← y,q] at this; cases this
end
section
variable {X:Cx} {E:XK} {R:VK} {y n:Str} {i:Nat} {Cy:Addr} {b₀:Stmt} {suite:List Stmt} {np hp:Pos} {tS:Addr→Obj→TS}
theorem catch_as (hs:X.stack = X.env :: X.outer) (hf:X.env.frame = some X.env.locals) (hpn:X.pn = []) (hcalm:X.calm = true) (hy:Gl X y) (hm:X.mg y = some (.ref Cy)) (hN:X.N.Nodup) (hi:X.N[i]? = some n) (hn:X.env.scope.names.lookup n = some .local)
  (hk:∀ cls H',E cls none H'→PySem.W.exmOne X.K cls (.ref Cy) = some true) (hS:∀ e oe,PSs (X.within e oe) (b₀ :: suite) (tS e oe))
  (q:∀ e oe cls H',oe.cls = cls→E cls none H'→tS e oe { nx:=fun _ _ => False,rt:=R } ((List.replicate X.N.length none).set i (some (.ref e))) H') (hdb:(y == ("__debug__":Str)) = false) {D:Ends} (hD:D.rt = R) {v:Value} {s':Shared} (h:Lands X E v s') :
  wpAny (model X.prog X.w) X.A (noteFrame v X.env) (fun _ s₂ => wpAny (model X.prog X.w) X.A (setFlight v none) (fun _ s₃ => wpAny (model X.prog X.w) X.A (handleBy v X.env [.ExceptHandler (some (.Name y np)) (some n) (b₀ :: suite) hp]) (SP X [] D) X.xe s₃) X.xe s₂) X.xe s':=by
 obtain ⟨pins,σ,H,s,e,cls,H',rfl,I,F,qE⟩:=h
 obtain ⟨B,a0,hfl,g1,g2,g3⟩:=F.fly
 have hfr:=I.ok.frames
 have hfl1:=hfl
 rw [hs] at hfr hfl1
 have heH:H' e = none:=by
  cases z:H' e with
  | none => rfl
  | some u =>
   obtain ⟨o,e1⟩:=g3 e u z
   rw [hfl.2.1] at e1; cases e1
 -- the exception's object,in any heap in which it has landed
 have obj:∀ {h:Heap},Heap.FlyingW B (X.env :: X.outer) e cls a0 h→Inv X pins σ H' { s' with heap:=h }→∃ oe,oe.cls = cls∧h.get? e = some oe∧∀ {pins' σ'},Inv X pins' σ' H' { s' with heap:=h }→Inv (X.within e oe) pins' σ' H' { s' with heap:=h }:=fun {h} fl J => by
  obtain ⟨oe,vs,ho,hc,hd,_⟩:=fl.first
  refine ⟨oe,hc,ho,fun J' => J'.within ho heH ?_ ?_ ?_⟩
  ·intro z
   obtain ⟨m,⟨o2,es,ep,ho2,hd2,_⟩,_⟩:=J'.loc
   rw [← z,ho] at ho2; cases ho2
   rw [hd] at hd2; cases hd2
  ·intro z
   obtain ⟨_,o2,ho2,hd2⟩:=J'.funs.mem z
   rw [ho] at ho2; cases ho2
   exact hd2 _ hd
  ·intro v z
   rw [hd] at z; cases z
 refine wpAny_looks_onW hfr hf hfl1 fun h₄ held₄ sm₄ => wpAny_landsW held₄ fun h₅ fl₅ sm₅ => ?_
 have I5:Inv X pins σ H' { s' with heap:=h₅ }:=I.landed F hfl g1 g2 g3 fl₅.1 (sm₄.trans sm₅)
 obtain ⟨o5,c5,he5,w5⟩:=obj fl₅ I5
 have LT:PySem.W.Looks (model X.prog X.w) h₅ (typeOf (.ref e)) cls:=c5 ▸ (PySem.W.Looks.ld he5).andThen .now
 refine wpAny_handleBy_cons (codeAny_handlers_test (ld_glob (X:=X.within e o5) (w5 I5) hy hm ?_ hdb)) (by intro z; cases z)
 refine (PySem.W.exm_one (M:=model X.prog X.w) I5.kIn LT (hk cls H' qE)).here ?_
 refine codeAny_handlers_suite_as (lands_againW fl₅ fun h₆ fl₆ sm₆ => ?_)
 have I6:Inv X pins σ H' { s' with heap:=h₆ }:=I.landed F hfl g1 g2 g3 fl₆.1 ((sm₄.trans sm₅).trans sm₆)
 obtain ⟨o6,c6,he6,w6⟩:=obj fl₆ I6
 have I6':Inv X [] (List.replicate X.N.length none) H' { s' with heap:=h₆ }:=(I6.pins_of (pins':=[]) fun p z => nomatch z).weak (by rw [List.length_replicate]; exact I6.len.symm) fun j v z => by
  rw [List.getElem?_replicate] at z
  split at z <;> cases z
 refine store_ok (X:=X.within e o6) (w6 I6') hN hi (.inl hn) (v:=.ref e) rfl (fun s₇ I7 => ?_) (.inr hn)
 refine wpAny_mono (hS e o6 [] s₇ _ H' _ I7 (q e o6 cls H' c6 qE)) (fun f s₈ h8 => ?_) fun _ _ z => False.elim z
 have fin:∀ {σ8:St} {H8:Hp},Inv (X.within e o6) [] σ8 H8 s₈→(∀ s9,Inv X [] (List.replicate X.N.length none) H8 s9→SP X [] D f s9)→wpAny (model X.prog X.w) X.A (do bindName X.env n .none; unbindBehindTheSuite X.env n hp) (fun _ s₃ => SP X [] D f s₃) X.xe s₈:=fun {σ8 H8} I8 k => by
  obtain ⟨m,hm8,_⟩:=I8.loc
  exact wpAny_nameGoes hn hm8 (by rw [I.ok.kind]; rfl) fun h' m' hN' hs' => k _ (Inv.suiteOver (I.ok.hd hcalm) I8 hpn hN' hs')
 cases f with
 | next => obtain ⟨σ8,H8,I8,z⟩:=h8; exact False.elim z
 | brk => obtain ⟨σ8,H8,I8,z⟩:=h8; exact False.elim z
 | cont => obtain ⟨σ8,H8,I8,z⟩:=h8; exact False.elim z
 | ret u =>
  obtain ⟨v8,σ8,H8,I8,r8,z⟩:=h8
  exact fin I8 fun s9 I9 => ⟨v8,_,H8,I9,r8,by rw [hD]; exact z⟩
end
section
variable {P:Program} {w:World} {K:PySem.W.Frag} {mg:Str→Option Value} {base:Heap}
theorem Fun.okX {x qual:Str} {st:Stmt} {f:Addr} {fd:FuncData} {N ps:List Str} {k:Nat} {sp:Sp} (F:Fun K x qual st f fd) (S:FnScope N ps (defScope st)) (len:∀ vs H Q E,sp vs H Q E→vs.length = ps.length)
  (hbody:∀ (cdv:Value) (A:Around) (outer:List Env) (s:Shared) (H:Hp) (vs:List V) (Q:VK) (E:XK),Room k (A.deeper (envOfC qual (defScope st) s.heap.objs.size f cdv))→sp vs H Q E →
   ∃ t,PSs (cxOf (CX1 P w) P w K mg base N qual (defScope st) f cdv A outer s H E) (defBody st) t∧t { nx:=fun _ H' => Q .non H',rt:=Q } (start N vs) H):FnOk P w K mg base (CX1 P w) (k + 1) f fd ps sp:=by
 obtain ⟨oc,od,kV,doc,pm,an,cdv,ct,osl,rfl,lk,hcd⟩:=F.ex
 exact fn_of lk hcd S len fun A outer s H vs Q E hr hsp => hbody cdv A outer s H vs Q E hr hsp
theorem Fun.okTry {x qual:Str} {st:Stmt} {f:Addr} {fd:FuncData} {N ps:List Str} {k:Nat} {sp:Sp} {body:List Stmt} {y n:Str} {i:Nat} {Cy:Addr} {b₀:Stmt} {suite:List Stmt} {np hp pos:Pos} (F:Fun K x qual st f fd) (S:FnScope N ps (defScope st)) (len:∀ vs H Q E,sp vs H Q E→vs.length = ps.length)
  (hst:defBody st = [.Try body [.ExceptHandler (some (.Name y np)) (some n) (b₀ :: suite) hp] [] [] pos]) (hy:(defScope st).names.lookup y = some .globalImplicit) (hm:mg y = some (.ref Cy)) (hi:N[i]? = some n) (hn:(defScope st).names.lookup n = some .local) (hdb:(y == ("__debug__":Str)) = false)
  (hbody:∀ (cdv:Value) (A:Around) (outer:List Env) (s:Shared) (H:Hp) (vs:List V) (Q:VK) (E:XK),Room k (A.deeper (envOfC qual (defScope st) s.heap.objs.size f cdv))→sp vs H Q E →
   ∃ (EX:XK) (t:TS) (tS:Addr→Obj→TS),PSs ((cxOf CX0 P w K mg base N qual (defScope st) f cdv A outer s H E).nox.wish (Lands (cxOf CX0 P w K mg base N qual (defScope st) f cdv A outer s H E).nox EX)) body t ∧
    (∀ e oe,PSs ((cxOf CX0 P w K mg base N qual (defScope st) f cdv A outer s H E).nox.within e oe) (b₀ :: suite) (tS e oe))∧t { nx:=fun _ H' => Q .non H',rt:=Q } (start N vs) H ∧
    (∀ cls H',EX cls none H'→PySem.W.exmOne K cls (.ref Cy) = some true)∧∀ e oe cls H',oe.cls = cls→EX cls none H'→tS e oe { nx:=fun _ _ => False,rt:=Q } ((List.replicate N.length none).set i (some (.ref e))) H'):FnOk P w K mg base CX0 (k + 1) f fd ps sp:=by
 obtain ⟨oc,od,kV,doc,pm,an,cdv,ct,osl,rfl,lk,hcd⟩:=F.ex
 refine ⟨len,fun A outer s H args us vs Q E hr e0 hb r hsp => ?_⟩
 obtain ⟨EX,t,tS,h1,h2,h3,h4,h5⟩:=hbody cdv A outer s H vs Q E (hr.deeper _) hsp
 -- the body as one statement,run with no pins
 have key:∀ (s1:Shared),Inv (cxOf CX0 P w K mg base N qual (defScope st) f cdv A outer s H E).nox [] (start N vs) H s1 →
   wpAny (model P w) (A.deeper (envOfC qual (defScope st) s.heap.objs.size f cdv)) (execs (defBody st) (envOfC qual (defScope st) s.heap.objs.size f cdv)) (SP (cxOf CX0 P w K mg base N qual (defScope st) f cdv A outer s H E).nox [] { nx:=fun _ H' => Q .non H',rt:=Q }) (fun _ _ => False) s1:=fun s1 I => by
  rw [hst]
  refine wpAny_execs_cons (thn (Q:=SP (cxOf CX0 P w K mg base N qual (defScope st) f cdv A outer s H E).nox [] { nx:=fun _ H' => Q .non H',rt:=Q }) (wpAny_Try_except (wpAny_mono (h1 [] s1 (start N vs) H { nx:=fun _ H' => Q .non H',rt:=Q } (I.wish _) h3) (fun fl s2 q2 => ?_) fun v s2 q2 => ?_)) fun fl s2 q2 => ?_)
  ·have q3:=SP.unwish q2
   cases fl with
   | next => exact wpAny_execs_nil q3
   | ret u => exact q3
   | brk => exact q3
   | cont => exact q3
  ·exact catch_as (X:=(cxOf CX0 P w K mg base N qual (defScope st) f cdv A outer s H E).nox) (R:=Q) rfl rfl rfl rfl hy hm S.nd hi hn h4 h2 h5 hdb rfl q2
  ·cases fl with
   | next => exact wpAny_execs_nil q2
   | ret u => exact q2
   | brk => exact q2
   | cont => exact q2
 have hl:=len _ _ _ _ hsp
 have KX:K.In s.heap:=e0.mod.kin.keeps fun b o e => (e0.bs b o e).1
 have lim:s.heap.NoLimit:=e0.mod.nolimit.keeps fun b o e => (e0.bs b o e).1
 have hkind:∀ z ∈ ps.zip us,(defScope st).names.lookup z.1 = some .local ∨ ((defScope st).names.lookup z.1 = some .cell∧((cellsFrom (s.heap.objs.size + 1) (defScope st).names []).lookup z.1).isSome = true):=fun ⟨n,v⟩ hy => by
  rcases S.par n (List.of_mem_zip hy).1 with q | q
  ·exact .inl q
  ·exact .inr ⟨q,PySem.W.cellsFrom_some _ _ _ (.inl q)⟩
 refine codeAny_call_function hr.depth (KX _ _ lk) rfl S.co S.gen rfl (PySem.W.codeRec_of KX hcd) (hb _ _ _ _ ?_)
 refine wpAny_newFunctionEnv_cells S.kind hkind fun env he s1 x => ?_
 subst he
 refine ⟨lim.keeps x.toInCall.keep,codeAny_func ?_⟩
 have I:Inv (cxOf CX0 P w K mg base N qual (defScope st) f cdv A outer s H E) [] (start N vs) H s1:=inv_start S hr.hd e0 hl r x
 refine wpAny_mono (key s1 (I.wish _)) (fun fl s' hs => ?_) fun e s' hs => hs.elim
 have fin:∀ {σ':St} {H':Hp} {v:V} {u:Value},Inv (cxOf CX0 P w K mg base N qual (defScope st) f cdv A outer s H E).nox [] σ' H' s'→RelV v u→Q v H'→CE outer P w H s Q u s' :=
  fun {σ' H' v u} J rv q => ⟨v,H',J.os,J.bare,J.base,J.hok,rv,q⟩
 cases fl with
 | ret u =>
  obtain ⟨v,σ',H',J,rv,q⟩:=hs
  exact fin J rv q
 | next =>
  obtain ⟨σ',H',J,q⟩:=hs
  exact fin (v:=V.non) (u:=Value.none) J rfl q
 | brk =>
  obtain ⟨_,_,_,q⟩:=hs
  exact False.elim q
 | cont =>
  obtain ⟨_,_,_,q⟩:=hs
  exact False.elim q
end
end L2
namespace L2
open PySem PySem.Spec PyProof.Rows Grd
theorem GridAt.same {H H':Hp} {a:Addr} {g:Grid} (h:GridAt H a g) (s:Same H H'):GridAt H' a g:=h.ext s.ext
theorem comp_grid {K:PySem.W.Frag} {a l:Addr} {g:Grid} {bs:List Addr} {f:Int→Bool} {H0:Hp} {tt2:TT} {Q:St→Hp→Prop} (ha:H0 a = some (.tup (bs.map V.ref))) (hG:RowsG H0 bs g) (hl:H0 l = none) (h4:g.length ≤ 4) (h6:∀ xs ∈ g,xs.length ≤ 6)
  (htt:∀ (at' k:Nat) (r:V) (i:Int) H' (Q':Bool→Hp→Prop),Q' (f i) H'→tt2 [some (.int at'),some r,some (.int k),some (.int i)] H' Q')
  (hQ:∀ σ H' ps,Same H0 H'→H' l = some (.lst (ps.map V.ref))→PlAt H' ps (gridF f g)→Q σ H') :
  tForJ (Ite fun H xs => SqT K H a xs) (gTup K 2 (gCons (gName 0) (gCons (gName 1) gNil))) (tBodyC tAll (tNest (iEnumT K (tCons (tVar 1) tNil)) (gTup K 2 (gCons (gName 2) (gCons (gName 3) gNil))) tt2 (tEmit l (tTup (tCons (tVar 0) (tCons (tVar 2) tNil)))))) (eC Q) [none,none,none,none] (upd H0 l (.lst [])):=by
 have s0:Same H0 (upd H0 l (.lst [])):=same_upd hl
 have hbs:bs.length = g.length:=Paired.length hG
 refine for_enum (xs:=bs.map V.ref) (fun i σ H' => σ.length = 4∧Same H0 H'∧∃ ps,H' l = some (.lst (ps.map V.ref))∧PlAt H' ps (gridF f (g.take i))∧ps.length ≤ 6 * i) ⟨rfl,s0,[],by rw [upd_same]; rfl,.nil,Nat.zero_le _⟩ (fun i σ H' _ h => SqT.of (h.2.1 _ _ ha)) ?_ ?_
 ·rintro i r p σ H' hx ⟨hσ,hs,ps,hl',hP,hn⟩ hp
  obtain ⟨b,hbi,rfl⟩:∃ b,bs[i]? = some b∧V.ref b = r:=by
   rw [List.getElem?_map] at hx
   cases e:bs[i]? with
   | none => rw [e] at hx; cases hx
   | some b => rw [e] at hx; exact ⟨b,rfl,Option.some.inj hx⟩
  obtain ⟨xs,hgi,hb⟩:=hG.row hbi
  have hx6:=h6 xs (List.mem_of_getElem? hgi)
  have hi4:i < 4:=Nat.lt_of_lt_of_le (List.getElem?_eq_some_iff.mp hgi).1 h4
  have s1:Same H' (upd H' p (.tup [.int i,.ref b])):=same_upd hp
  match σ,hσ with
  | [x0,x1,x2,x3],_ =>
  refine ⟨p,_,rfl,SqT.of upd_same,rfl,_,_,rfl,_,_,rfl,rfl,?_⟩
  refine body_all ?_
  refine ⟨_,rfl,b,xs.map V.int,rfl,SqT.of (s1 _ _ (hs _ _ hb)),?_⟩
  refine for_enum (xs:=xs.map V.int) (fun j σ H2 => (∃ y2 y3,σ = [some (.int i),some (.ref b),y2,y3])∧Same H0 H2∧∃ ps,H2 l = some (.lst (ps.map V.ref))∧PlAt H2 ps (gridF f (g.take i) ++ rowF f i (xs.take j))∧ps.length ≤ 6 * i + j) ?_ (fun j σ H2 _ h => SqT.of (h.2.1 _ _ hb)) ?_ ?_
  ·exact ⟨⟨x2,x3,rfl⟩,hs.trans s1,ps,s1 _ _ hl',by simpa [rowF] using hP.same s1,hn⟩
  ·rintro j x p2 σ H2 hxj ⟨⟨y2,y3,rfl⟩,hs2,ps2,hl2,hP2,hn2⟩ hp2
   obtain ⟨z,hzj,rfl⟩:∃ z,xs[j]? = some z∧V.int z = x:=by
    rw [List.getElem?_map] at hxj
    cases e:xs[j]? with
    | none => rw [e] at hxj; cases hxj
    | some z => rw [e] at hxj; exact ⟨z,rfl,Option.some.inj hxj⟩
   have hj6:j < 6:=Nat.lt_of_lt_of_le (List.getElem?_eq_some_iff.mp hzj).1 hx6
   have s2:Same H2 (upd H2 p2 (.tup [.int j,.int z])):=same_upd hp2
   refine ⟨p2,_,rfl,SqT.of upd_same,rfl,_,_,rfl,_,_,rfl,rfl,?_⟩
   refine htt i j (.ref b) z _ _ (iteB (fun e => ?_) fun e => ?_)
   ·refine ⟨_,rfl,_,rfl,(by show 2 ≤ sizeLine; decide),fun q hq => ?_⟩
    have s3:=same_upd (o:=.tup [.int i,.int j]) hq
    have hlq:l ≠ q:=ne_of_none (s2 _ _ hl2) hq
    refine ⟨_,s3 _ _ (s2 _ _ hl2),small1000 (by rw [List.length_map]; omega),⟨_,_,rfl⟩,fun b' u e' => ?_,ps2 ++ [q],?_,?_,?_⟩
    ·rw [upd_ne (ne_of_none e' hl)]; exact s3 _ _ (s2 _ _ (hs2 _ _ e'))
    ·rw [upd_same,List.map_append]; rfl
    ·have hne:∀ b' u,(upd (upd H2 p2 (.tup [.int j,.int z])) q (.tup [.int i,.int j])) b' = some (.tup u)→(upd (upd (upd H2 p2 (.tup [.int j,.int z])) q (.tup [.int i,.int j])) l (.lst (ps2.map V.ref ++ [.ref q]))) b' = some (.tup u):=fun b' u e' => by
      rw [upd_ne (fun z' => ?_)]; exact e'
      rw [z',upd_ne hlq,s2 _ _ hl2] at e'; cases e'
     rw [Grd.rowF_succ f i xs j _ hzj,if_pos e,← List.append_assoc]
     exact PlAt.snoc (Paired.mapP ((hP2.same s2).same s3) fun _ _ e' => hne _ _ e') (hne _ _ upd_same)
    ·rw [List.length_append]; show ps2.length + 1 ≤ _; omega
   ·refine ⟨⟨_,_,rfl⟩,hs2.trans s2,ps2,s2 _ _ hl2,?_,by omega⟩
    rw [Grd.rowF_succ f i xs j _ hzj,if_neg (by rw [e]; decide),List.append_nil]
    exact hP2.same s2
  ·rintro σ H2 ⟨⟨y2,y3,rfl⟩,hs2,ps2,hl2,hP2,hn2⟩
   rw [List.length_map] at hP2 hn2
   refine ⟨rfl,hs2,ps2,hl2,?_,by omega⟩
   rw [List.take_of_length_le (Nat.le_refl _)] at hP2
   rw [Grd.gridF_succ f g i _ hgi]
   exact hP2
 ·rintro σ H' ⟨_,hs,ps,hl',hP,_⟩
  rw [List.length_map,hbs,List.take_of_length_le (Nat.le_refl _)] at hP
  exact hQ σ H' ps hs hl' hP
theorem filt_int:∀ xs:List Int,((xs.map V.int).filter nonneg).length = cntR xs
 | [] => rfl
 | x :: xs => by
  have ih:=filt_int xs
  unfold cntR at ih ⊢
  rw [List.map_cons]
  cases h:pos x with
  | true => rw [List.filter_cons_of_pos (show nonneg (.int x) = true from h),List.filter_cons_of_pos h,List.length_cons,List.length_cons,ih]
  | false => rw [List.filter_cons_of_neg (by show ¬ nonneg (.int x) = true; rw [show nonneg (.int x) = false from h]; decide),List.filter_cons_of_neg (by rw [h]; decide),ih]
theorem cells_sum {H:Hp}:∀ {bs:List Addr} {g:Grid},RowsG H bs g→((bs.map V.ref).map (cellsIn H)).sum = cntG g
 | _,_,.nil => rfl
 | b :: bs,xs :: g,.cons h t => by
  have ih:=cells_sum t
  unfold cntG at ih ⊢
  rw [List.map_cons,List.map_cons,List.sum_cons,List.map_cons,List.sum_cons,ih]
  congr 1
  unfold cellsIn
  rw [tupOf_of h]
  exact filt_int xs
theorem GridAt.good {H:Hp} {a:Addr} {g:Grid} {w:Nat} (hA:GridAt H a g) (G:Good g w):goodM H (.ref a) = true:=by
 obtain ⟨bs,ha,hG⟩:=hA
 have hl:bs.length = g.length:=Paired.length hG
 have row:∀ r ∈ bs.map V.ref,∃ b xs,r = .ref b∧H b = some (.tup (xs.map V.int))∧xs ∈ g:=fun r hr => by
  obtain ⟨b,hb,rfl⟩:=List.mem_map.mp hr
  obtain ⟨i,hi,e⟩:=List.getElem_of_mem hb
  obtain ⟨xs,h1,h2⟩:=hG.row (i:=i) (b:=b) (by rw [List.getElem?_eq_getElem hi,e])
  exact ⟨b,xs,rfl,h2,List.mem_of_getElem? h1⟩
 have len:∀ r ∈ bs.map V.ref,lenOf H r = w:=fun r hr => by
  obtain ⟨b,xs,rfl,h1,h2⟩:=row r hr
  unfold lenOf
  rw [tupOf_of h1]
  show (xs.map V.int).length = w
  rw [List.length_map]; exact G.len xs h2
 unfold goodM
 rw [tupOf_of ha]
 dsimp only
 have c:=cells_sum hG
 have h1:=G.h1
 have h4:=G.h4
 rw [List.length_map,hl,decide_eq_true G.h1,decide_eq_true G.h4,c,decide_eq_true G.c1,decide_eq_true G.c10]
 have e1:(bs.map V.ref).all (rowOk H) = true:=List.all_eq_true.mpr fun r hr => by
  obtain ⟨b,xs,rfl,h1,h2⟩:=row r hr
  have w1:=G.w1
  have w5:=G.w5
  have lx:=G.len xs h2
  unfold rowOk
  rw [tupOf_of h1]
  dsimp only
  rw [List.length_map,decide_eq_true (show 1 ≤ xs.length by omega),decide_eq_true (show xs.length ≤ 6 by omega)]
  show (true && _) = true
  rw [Bool.true_and,List.all_eq_true]
  intro x hx
  obtain ⟨n,hn,rfl⟩:=List.mem_map.mp hx
  obtain ⟨n1,n2⟩:=G.num xs h2 n hn
  show (decide (-2 ≤ n) && decide (n ≤ 99)) = true
  rw [decide_eq_true n1,decide_eq_true n2]; rfl
 have e2:(bs.map V.ref).all (fun r => decide (lenOf H r = lenOf H ((bs.map V.ref).headD .non))) = true:=List.all_eq_true.mpr fun r hr => by
  match bs,hl,len,hr with
  | b :: bs',_,len,hr => exact decide_eq_true ((len r hr).trans (len _ List.mem_cons_self).symm)
  | [],_,_,hr => cases hr
 rw [e1,e2]
 rfl
theorem GridAt.kn {H:Hp} {a:Addr} {g:Grid} {w:Nat} (hA:GridAt H a g) (G:Good g w):KnA H (.ref a):=by
 obtain ⟨bs,ha,hG⟩:=hA
 have hl:bs.length = g.length:=Paired.length hG
 have h4:=G.h4
 refine KnA.tup ha (by rw [List.length_map]; omega) fun r hr => ?_
 obtain ⟨b,hb,rfl⟩:=List.mem_map.mp hr
 obtain ⟨i,hi,e⟩:=List.getElem_of_mem hb
 obtain ⟨xs,h1,h2⟩:=hG.row (i:=i) (b:=b) (by rw [List.getElem?_eq_getElem hi,e])
 have lx:=G.len xs (List.mem_of_getElem? h1)
 have w5:=G.w5
 refine KnA.tup h2 (by rw [List.length_map]; omega) fun x hx => ?_
 obtain ⟨n,_,rfl⟩:=List.mem_map.mp hx
 exact KnA.int n
theorem GridAt.ix {H:Hp} {a:Addr} {g:Grid} (hA:GridAt H a g) {i j:Nat} {xs:List Int} {x:Int} (h1:g[i]? = some xs) (h2:xs[j]? = some x):∃ (bs:List Addr) (b:Addr),H a = some (.tup (bs.map V.ref))∧atI (bs.map V.ref) i = some (.ref b)∧H b = some (.tup (xs.map V.int))∧atI (xs.map V.int) j = some (.int x):=by
 obtain ⟨bs,ha,hG⟩:=hA
 obtain ⟨b,hb,hr⟩:=hG.get h1
 exact ⟨bs,b,ha,atI_nat (by rw [List.getElem?_map,hb]; rfl),hr,atI_nat (by rw [List.getElem?_map,h2]; rfl)⟩
end L2
namespace M43
open PySem L2 PyProof.Rows Grd
noncomputable abbrev sPair:Stmt:=top 9
noncomputable abbrev sCheck:Stmt:=top 20
noncomputable abbrev sCellsOf:Stmt:=top 22
noncomputable abbrev sRoadsOf:Stmt:=top 23
noncomputable abbrev sIsCell:Stmt:=top 24
noncomputable abbrev sWTog:Stmt:=top 25
noncomputable def spGrid (f:Int→Bool):Sp:=fun vs H Q _ => ∃ a g w,vs = [.ref a]∧GridAt H a g∧Good g w∧∀ H' l ps,H l = none→Same H H'→H' l = some (.lst (ps.map V.ref))→PlAt H' ps (gridF f g)→Q (.ref l) H'
noncomputable def spCheck:Sp:=fun vs H Q _ => ∃ a g w,vs = [.ref a]∧GridAt H a g∧Good g w∧∀ H',Same H H'→Q .non H'
noncomputable def placeOf (H:Hp) (v:V):Option (Int × Int):=match tupOf H v with
 | some [.int r,.int c] => some (r,c)
 | _ => none
noncomputable def isCell (H:Hp) (g:Grid) (v:V):Bool:=match placeOf H v with
 | some c => decide (c ∈ gridF pos g)
 | none => false
noncomputable def spIsCell:Sp:=fun vs H Q _ => ∃ a g w v,vs = [.ref a,v]∧GridAt H a g∧Good g w∧Kn H 2 v∧∀ H',Same H H'→Q (.bl (isCell H g v)) H'
structure At (P:Program) (w:World) (K:PySem.W.Frag) (mg:Str→Option Value) (base:Heap) (CX:CXT) (k:Nat) (x:Str) (f:Addr) (fd:FuncData) (ps:List Str) (sp:Sp):Prop where
 nm:mg x = some (.ref f)
 kp:PySem.W.keepIn K (.ref f) = true
 bd:L2.Binds K fd ps []
 ok:FnOk P w K mg base CX k f fd ps sp
section
variable {P:Program} {w:World} {K:PySem.W.Frag} {mg:Str→Option Value} {base:Heap}
theorem ok_placesG {f:Addr} {fd:FuncData} (F:Fun K "places_of_cells" "places_of_cells" sPlaces f fd) (T:Txt mg):FnOk P w K mg base CX0 1 f fd ["mead"] (spGrid pos):=by
 refine F.ok scPlaces (fun vs H Q E h => ?_) (fun cdv A outer s H vs Q E hr h => ?_)
 ·obtain ⟨a,g,w',rfl,_⟩:=h; rfl
 ·obtain ⟨a,g,w',rfl,⟨bs,ha,hG⟩,G,q⟩:=h
  refine ⟨_,pss_one (ps_ret (pe_comp2 (defScope sPlaces).names ["mead"] ["at","row","k","mark"] [] rfl (pi_enumT rfl rfl T.enumerate (pa_cons (pv 0) pa_nil)) rfl rfl rfl (by decide +kernel)
   (fun Z => pg_tup rfl (pgs_cons (pg_name (i:=0) nd4 rfl (Or.inl rfl)) (pgs_cons (pg_name (i:=1) nd4 rfl (Or.inl rfl)) pgs_nil))) (fun Z => pts_nil)
   (fun Z => pi_enumT rfl rfl T.enumerate (pa_cons (pv 1) pa_nil)) (fun Z => pg_tup rfl (pgs_cons (pg_name (i:=2) nd4 rfl (Or.inl rfl)) (pgs_cons (pg_name (i:=3) nd4 rfl (Or.inl rfl)) pgs_nil)))
   (fun Z => pts_one (pt_cmpR op_ge (pv 3) pe_int (nomark _))) (fun Z => pe_tup (pa_cons (pv 0) (pa_cons (pv 2) pa_nil))))),?_⟩
  refine ⟨_,rfl,a,_,rfl,SqT.of ha,fun Z l hl => ?_⟩
  exact comp_grid (f:=pos) ha hG hl G.h4 (fun xs hx => by have:=G.len xs hx; have:=G.w5; omega) (fun at' k r i H' Q' hq => ⟨_,rfl,_,_,rfl,rfl,_,rfl,hq⟩) fun σ H' ps hs hl' hP => q H' l ps hl hs hl' hP
theorem scCheck:FnScope ["mead"] ["mead"] (defScope sCheck):=⟨rfl,rfl,rfl,by decide +kernel,rfl,by decide +kernel,by decide +kernel⟩
theorem ok_check {f gI:Addr} {fd dI:FuncData} (F:Fun K "check_mead" "check_mead" sCheck f fd) (aI:At P w K mg base CX0 4 "is_mead" gI dI ["thing"] spMead):FnOk P w K mg base CX0 5 f fd ["mead"] spCheck:=by
 refine F.ok scCheck (fun vs H Q E h => ?_) (fun cdv A outer s H vs Q E hr h => ?_)
 ·obtain ⟨a,g,w',rfl,_⟩:=h; rfl
 ·obtain ⟨a,g,w',rfl,hA,G,q⟩:=h
  refine ⟨_,pss_one (ps_if (pt_not (pt_val (pe_call aI.ok hr rfl aI.nm aI.kp aI.bd .nil pass0 (pa_v (pv 0) pa_nil)))) pss_never pss_nil),?_⟩
  refine ⟨_,rfl,_,rfl,hA.kn G 3,fun H' hs => ⟨_,rfl,?_⟩⟩
  rw [hA.good G]
  exact iteF (q H' hs)
theorem scCellsOf:FnScope ["mead"] ["mead"] (defScope sCellsOf):=⟨rfl,rfl,rfl,by decide +kernel,rfl,by decide +kernel,by decide +kernel⟩
theorem ok_cellsOf {f gC gP:Addr} {fd dC dP:FuncData} (F:Fun K "cells_of" "cells_of" sCellsOf f fd) (aC:At P w K mg base CX0 5 "check_mead" gC dC ["mead"] spCheck) (aP:At P w K mg base CX0 1 "places_of_cells" gP dP ["mead"] (spGrid pos)):FnOk P w K mg base CX0 6 f fd ["mead"] (spGrid pos):=by
 refine F.ok scCellsOf (fun vs H Q E h => ?_) (fun cdv A outer s H vs Q E hr h => ?_)
 ·obtain ⟨a,g,w',rfl,_⟩:=h; rfl
 ·obtain ⟨a,g,w',rfl,hA,G,q⟩:=h
  refine ⟨_,pss_cons (ps_expr (pe_call aC.ok hr rfl aC.nm aC.kp aC.bd .nil pass0 (pa_v (pv 0) pa_nil))) <| pss_one (ps_ret (pe_call aP.ok (hr.mono (by decide)) rfl aP.nm aP.kp aP.bd .nil pass0 (pa_v (pv 0) pa_nil))),?_⟩
  refine ⟨_,rfl,a,g,w',rfl,hA,G,fun H1 s1 => ?_⟩
  exact ⟨_,rfl,a,g,w',rfl,hA.same s1,G,fun H2 l ps hl s2 hl' hP => q H2 l ps (s1.free hl) (s1.trans s2) hl' hP⟩
theorem scRoadsOf:FnScope ["mead"] ["mead"] (defScope sRoadsOf):=⟨rfl,rfl,rfl,by decide +kernel,rfl,by decide +kernel,by decide +kernel⟩
theorem ok_roadsOf {f gC:Addr} {fd dC:FuncData} (F:Fun K "roads_of" "roads_of" sRoadsOf f fd) (T:Txt mg) (T2:Txt2 mg) (aC:At P w K mg base CX0 5 "check_mead" gC dC ["mead"] spCheck):FnOk P w K mg base CX0 6 f fd ["mead"] (spGrid road):=by
 obtain ⟨tR,mR⟩:=T2.road
 refine F.ok scRoadsOf (fun vs H Q E h => ?_) (fun cdv A outer s H vs Q E hr h => ?_)
 ·obtain ⟨a,g,w',rfl,_⟩:=h; rfl
 ·obtain ⟨a,g,w',rfl,hA,G,q⟩:=h
  refine ⟨_,pss_cons (ps_expr (pe_call aC.ok hr rfl aC.nm aC.kp aC.bd .nil pass0 (pa_v (pv 0) pa_nil))) <| pss_one (ps_ret (pe_comp2 (defScope sRoadsOf).names ["mead"] ["at","row","k","mark"] [] rfl (pi_enumT rfl rfl T.enumerate (pa_cons (pv 0) pa_nil)) rfl rfl rfl (by decide +kernel)
   (fun Z => pg_tup rfl (pgs_cons (pg_name (i:=0) nd4 rfl (Or.inl rfl)) (pgs_cons (pg_name (i:=1) nd4 rfl (Or.inl rfl)) pgs_nil))) (fun Z => pts_nil)
   (fun Z => pi_enumT rfl rfl T.enumerate (pa_cons (pv 1) pa_nil)) (fun Z => pg_tup rfl (pgs_cons (pg_name (i:=2) nd4 rfl (Or.inl rfl)) (pgs_cons (pg_name (i:=3) nd4 rfl (Or.inl rfl)) pgs_nil)))
   (fun Z => pts_one (pt_cmpR op_eq (pv 3) (pe_glob (v:=.int (-1)) rfl mR ⟨_,rfl⟩) (nomark _))) (fun Z => pe_tup (pa_cons (pv 0) (pa_cons (pv 2) pa_nil))))),?_⟩
  refine ⟨_,rfl,a,g,w',rfl,hA,G,fun H1 s1 => ?_⟩
  obtain ⟨bs,ha,hG⟩:=hA.same s1
  refine ⟨_,rfl,a,_,rfl,SqT.of ha,fun Z l hl => ?_⟩
  refine comp_grid (f:=road) ha hG hl G.h4 (fun xs hx => by have:=G.len xs hx; have:=G.w5; omega) (fun at' k r i H' Q' hq => ⟨_,rfl,rfl,_,rfl,?_⟩) fun σ H' ps hs hl' hP => q H' l ps (s1.free hl) (s1.trans hs) hl' hP
  have e:decide (V.int i = V.int (-1)) = road i:=by
   unfold road
   rw [Bool.eq_iff_iff]; simp
  rw [e]; exact hq
theorem scPair:FnScope ["thing"] ["thing"] (defScope sPair):=⟨rfl,rfl,rfl,by decide +kernel,rfl,by decide +kernel,by decide +kernel⟩
noncomputable def spPair:Sp:=fun vs H Q _ => ∃ v,vs = [v]∧Kn H 2 v∧∀ H',Same H H'→Q (.bl (placeOf H v).isSome) H'
theorem ok_pair {f gT gN:Addr} {fd dT dN:FuncData} (F:Fun K "is_pair_of_numbers" "is_pair_of_numbers" sPair f fd) (T:Txt mg) (aT:At P w K mg base CX0 1 "is_tuple_within" gT dT ["thing","least","most"] spTuple) (aN:At P w K mg base CX0 1 "is_number" gN dN ["thing"] spNumber) :
  FnOk P w K mg base CX0 2 f fd ["thing"] spPair:=by
 refine F.ok scPair (fun vs H Q E h => ?_) (fun cdv A outer s H vs Q E hr h => ?_)
 ·obtain ⟨v,rfl,_⟩:=h; rfl
 ·obtain ⟨v,rfl,k,q⟩:=h
  refine ⟨_,pss_one (ps_ret (pe_and (pe_call aT.ok hr rfl aT.nm aT.kp aT.bd .nil pass0 (pa_v (pv 0) (pa_c pe_int (pa_c pe_int pa_nil)))) (pe_one (pe_callB (call_all rfl) rfl T.all boot_all (pa_lc (pe_comp1 (defScope sPair).names ["thing"] ["number"] [] rfl (pi_tup (pv 0)) rfl rfl rfl (by decide +kernel)
    (fun Z => pg_name (i:=0) (show (["number"]:List Str).Nodup by decide +kernel) rfl (Or.inl rfl)) (fun Z => pts_nil) (fun Z => pe_call aN.ok hr rfl aN.nm aN.kp aN.bd .nil pass0 (pa_v (pv 0) pa_nil))) pa_nil))))),?_⟩
  refine ⟨_,rfl,v,2,2,rfl,k.le (by decide),_,rfl,iteB (fun e' => ?_) fun e' => ?_⟩
  ·unfold tupIn at e'
   cases z:tupOf H v with
   | none => rw [z] at e'; cases e'
   | some xs =>
    rw [z] at e'
    obtain ⟨p,rfl,hp⟩:=of_tupOf z
    obtain ⟨hz,hk⟩:=k.items hp
    have hlen:xs.length = 2:=by
     simp only [Bool.and_eq_true,decide_eq_true_eq] at e'
     omega
    refine ⟨_,rfl,p,rfl,⟨xs,SqT.of hp⟩,fun Z l hl => ?_⟩
    refine comp_map (fun x => .bl (isInt x)) hp hl hz (fun x H' Q' hm hs hq => ?_) fun σ H1 s1 hl1 => ?_
    ·exact ⟨_,rfl,x,rfl,(hk x hm).ext hs.ext,hq _ (Same.refl _)⟩
    ·refine ⟨l,xs.map isInt,rfl,SqL.of (by rw [hl1,List.map_map]; rfl),?_⟩
     have:(placeOf H (.ref p)).isSome = (xs.map L2.isInt).all id:=by
      unfold placeOf
      rw [z]
      match xs,hlen with
      | [x,y],_ => cases x <;> cases y <;> rfl
     have q':=q H1 s1
     rw [this] at q'; exact q'
  ·have:(placeOf H v).isSome = false:=by
    unfold tupIn at e'; unfold placeOf
    cases z:tupOf H v with
    | none => rfl
    | some xs =>
     rw [z] at e'
     match xs,e' with
     | [x,y],e' => simp at e'
     | [],_ => rfl
     | [x],_ => cases x <;> rfl
     | x :: y :: u :: t,_ => cases x <;> cases y <;> rfl
   have q':=q H (Same.refl H)
   rw [this] at q'; exact q'
theorem scIsCell:FnScope ["mead","thing"] ["mead","thing"] (defScope sIsCell):=⟨rfl,rfl,rfl,by decide +kernel,rfl,by decide +kernel,by decide +kernel⟩
theorem ok_isCell {f gT gP:Addr} {fd dT dP:FuncData} (F:Fun K "is_cell" "is_cell" sIsCell f fd) (aT:At P w K mg base CX0 2 "is_pair_of_numbers" gT dT ["thing"] spPair)
  (aP:At P w K mg base CX0 1 "places_of_cells" gP dP ["mead"] (spGrid pos)):FnOk P w K mg base CX0 3 f fd ["mead","thing"] spIsCell:=by
 refine F.ok scIsCell (fun vs H Q E h => ?_) (fun cdv A outer s H vs Q E hr h => ?_)
 ·obtain ⟨a,g,w',v,rfl,_⟩:=h; rfl
 ·obtain ⟨a,g,w',v,rfl,hA,G,k,q⟩:=h
  refine ⟨_,pss_one (ps_ret (pe_and (pe_call aT.ok hr rfl aT.nm aT.kp aT.bd .nil pass0 (pa_v (pv 1) pa_nil)) (pe_one (pe_cmpR (op_inP (hu_of hr)) (pv 1) (pe_call aP.ok (hr.mono (by decide)) rfl aP.nm aP.kp aP.bd .nil pass0 (pa_v (pv 0) pa_nil)) rfl)))),?_⟩
  refine ⟨_,rfl,v,rfl,k,fun H1 s1 => ⟨_,rfl,iteB (fun e => ?_) fun e => ?_⟩⟩
  ·obtain ⟨⟨r,c⟩,z⟩:=Option.isSome_iff_exists.mp e
   have zt:tupOf H v = some [.int r,.int c]:=by
    unfold placeOf at z
    split at z
    ·rename_i r2 c2 hz
     injection z with z; injection z with z1 z2
     subst z1 z2; exact hz
    ·cases z
   obtain ⟨p,rfl,hp⟩:=of_tupOf zt
   refine ⟨_,rfl,_,rfl,a,g,w',rfl,hA.same s1,G,fun H2 l2 ps hl2 s2 hl2' hP => ?_⟩
   refine ⟨p,l2,ps,gridF pos g,(r,c),rfl,rfl,s2 _ _ (s1 _ _ hp),hl2',hP,?_⟩
   have:isCell H g (.ref p) = decide ((r,c) ∈ gridF pos g):=by unfold isCell; rw [z]
   have q':=q H2 (s1.trans s2)
   rw [this] at q'; exact q'
  ·have:isCell H g v = false:=by
    unfold isCell
    cases z:placeOf H v with
    | none => rfl
    | some c => rw [z] at e; cases e
   have q':=q H1 s1
   rw [this] at q'; exact q'
theorem scWTog:FnScope ["mead","places"] ["mead","places"] (defScope sWTog):=⟨rfl,rfl,rfl,by decide +kernel,rfl,by decide +kernel,by decide +kernel⟩
theorem ndRC:(["row","column","mead"]:List Str).Nodup:=by decide +kernel
end
end M43
namespace M43
open PySem L2 PyProof.Rows
noncomputable abbrev sThing:Stmt:=top 43
noncomputable def spThing (d:Int):Sp:=fun vs H Q _ => ∃ p,vs = [.ref p,.int d]∧PenAt H p∧∀ v H',Stp p H H'→KnA H' v→Q v H'
section
variable {P:Program} {w:World} {K:PySem.W.Frag} {mg:Str→Option Value} {base:Heap}
noncomputable abbrev nThing:List Str:=["_law_pen_here","_law_deep","_law_way","_law_many","_law_some"]
theorem scThing:FnScope nThing ["_law_pen_here","_law_deep"] (defScope sThing):=⟨rfl,rfl,rfl,by decide +kernel,rfl,by decide +kernel,by decide +kernel⟩
theorem ndLap:(["_law_lap","_law_pen_here","_law_deep"]:List Str).Nodup:=by decide +kernel
theorem ndAt:(["_law_at","_law_one"]:List Str).Nodup:=by decide +kernel
theorem pick {H:Hp} {xs:List V} {i:Int} (h0:0 ≤ i) (h1:i < xs.length) (hx:∀ x ∈ xs,KnA H x):∃ v,atI xs i = some v∧KnA H v:=by
 obtain ⟨n,rfl⟩:=Int.eq_ofNat_of_zero_le h0
 have hlt:n < xs.length:=by omega
 exact ⟨xs[n],atI_nat (by simp [hlt]),hx _ (List.getElem_mem hlt)⟩
theorem pickR {p l:Addr} {H H1 H2:Hp} {xs:List V} {i m:Int} {Q:VK} (st:Stp p H H1) (hl:H1 l = none) (st2:Stp p (upd H1 l (.lst xs)) H2) (i0:0 ≤ i) (i1:i < m) (hx:∀ x ∈ xs,∀ H',KnA H' x) (q:∀ v H',Stp p H H'→KnA H' v→Q v H') (hm:m = xs.length:=by rfl) :
  rIxL K (.ref l) (.int i) H2 Q:=by
 have hlp:l ≠ p:=fun z => by
  obtain ⟨x,f',e⟩:=st.pen
  rw [z,e] at hl; cases hl
 obtain ⟨v,hv,kv⟩:=pick (H:=H2) i0 (by rw [← hm]; exact i1) fun x h => hx x h H2
 exact ⟨l,xs,i,v,rfl,rfl,SqL.of (st2.keep l _ hlp upd_same),hv,q v H2 ((st.same (same_upd hl)).trans st2) kv⟩
theorem thing_step {f g:Addr} {fd gd:FuncData} {k:Nat} {spR:Sp} (hk:1 ≤ k) (F:Fun K "_law_thing" "_law_thing" sThing f fd) (T:Txt mg) (T2:Txt2 mg) (mT:mg "_law_thing" = some (.ref f)) (bT:Binds K fd ["_law_pen_here","_law_deep"] [])
  (G:FnOk P w K mg base CX0 k f fd ["_law_pen_here","_law_deep"] spR) (b1:Binds K gd ["_law_pen_here","_law_many"] []) (m1:mg "_law_draw" = some (.ref g)) (p1:PySem.W.keepIn K (.ref g) = true) (D:FnOk P w K mg base CX0 1 g gd ["_law_pen_here","_law_many"] spDraw)
  (d:Int) (hR:d < 7→∀ p H Q E,PenAt H p→(∀ v H',Stp p H H'→KnA H' v→Q v H')→spR [.ref p,.int (d + 1)] H Q E):FnOk P w K mg base CX0 (k + 1) f fd ["_law_pen_here","_law_deep"] (spThing d):=by
 refine F.ok scThing (fun vs H Q E h => ?_) (fun cdv A outer s H vs Q E hr h => ?_)
 ·obtain ⟨p,rfl,_⟩:=h; rfl
 ·obtain ⟨p,rfl,hp,q⟩:=h
  have hr1:Room 1 _:=hr.mono hk
  have tail:∃ tt,PSs (cxOf CX0 P w K mg base nThing "_law_thing" (defScope sThing) f cdv A outer s H E).nox ((defBody sThing).drop 6) tt∧∀ (way many:Int) (H2:Hp),d < 7→0 ≤ many→many ≤ 100→Stp p H H2 →
    tt { nx:=fun _ H' => Q .non H',rt:=Q } [some (.ref p),some (.int d),some (.int way),some (.int many),none] H2:=by
   refine ⟨_,pss_cons (ps_setC1 (i:=4) (defScope sThing).names nThing ["_law_lap"] [("_law_pen_here",0),("_law_deep",1)] rfl scThing.nd rfl rfl (pi_range1 rfl T2.range (pa_v (pv 3) pa_nil)) rfl rfl rfl (by decide +kernel)
    (fun Z => pg_name (i:=0) ndLap rfl (Or.inl rfl)) (fun Z => pts_nil) (fun Z => pe_call G hr rfl mT F.kp bT .nil pass0 (pa_v (pv 1) (pa_b (pe_op op_add (pv 2) pe_int) pa_nil)))) <|
   pss_cons (ps_if (pt_cmpR op_eq (pv 2) pe_int (nomark _)) (pss_one (ps_ret (pv 4))) pss_nil) <|
   pss_one (ps_ret (pe_ifExp (pt_cmpR op_eq (pv 2) pe_int (nomark _)) (pe_callTy call_tuple_of rfl T.tuple boot_tuple (pa_v (pv 4) pa_nil))
    (pe_callTy (call_dictL rfl) rfl T2.dict boot_dict (pa_cons (pe_comp1 (defScope sThing).names nThing ["_law_at","_law_one"] [] rfl (pi_enumL rfl rfl T.enumerate (pa_v (pv 4) pa_nil)) rfl rfl rfl (by decide +kernel)
     (fun Z => pg_tup rfl (pgs_cons (pg_name (i:=0) ndAt rfl (Or.inl rfl)) (pgs_cons (pg_name (i:=1) ndAt rfl (Or.inl rfl)) pgs_nil))) (fun Z => pts_nil) (fun Z => pe_tup (pa_v (pv 0) (pa_v (pv 1) pa_nil)))) pa_nil)))),?_⟩
   intro way many H2 hd7 hm0 hm1 st
   refine ⟨_,rfl,many,rfl,by omega,by omega,fun Z l hl => ?_⟩
   refine for_range (lo:=0) (n:=many.toNat) (fun i σ H' => (∃ o,σ = [o,some (.ref p),some (.int d)])∧Stp p H2 H'∧∃ xs,H' l = some (.lst xs)∧xs.length = i∧∀ x ∈ xs,KnA H' x)
    ⟨⟨none,rfl⟩,(Stp.refl st.pen).updL hl st.pen,[],upd_same,rfl,fun x hx => by cases hx⟩ ?_ ?_
   ·rintro i σ H' hi ⟨⟨o,rfl⟩,st',xs,hl',hn,hx⟩
    refine body_name ?_
    refine ⟨_,rfl,_,rfl,_,_,rfl,rfl,?_⟩
    refine hR hd7 p H' _ _ st'.pen fun v H3 st3 kv => ?_
    have hlp:l ≠ p:=fun z => by
     obtain ⟨x,f',e⟩:=st.pen
     rw [z,e] at hl; cases hl
    have hl3:=st3.keep l _ hlp hl'
    have ex:Ext H3 (upd H3 l (.lst (xs ++ [v]))):=Ext.updL hl3
    refine ⟨xs,hl3,small1000 (by omega),⟨_,rfl⟩,(st'.trans st3).updL hl st.pen,xs ++ [v],upd_same,by rw [List.length_append,hn]; rfl,fun x hx' => ?_⟩
    rcases List.mem_append.mp hx' with z | z
    ·exact ((hx x z).ext (st3.ext st'.pen)).ext ex
    ·rw [List.mem_singleton.mp z]; exact kv.ext ex
   ·rintro σ H3 ⟨_,st3,xs,hl3,hn,hx⟩
    have stA:=st.trans st3
    refine ⟨_,rfl,rfl,_,rfl,ite2d (fun _ => ?_) fun _ => ?_⟩
    ·exact ⟨_,rfl,q _ _ stA (KnA.lst hl3)⟩
    ·refine ⟨_,rfl,rfl,_,rfl,ite2d (fun _ => ?_) fun _ => ?_⟩
     ·refine ⟨_,rfl,l,xs,rfl,.inl ⟨SqL.of hl3,fun l2 hl2 => ?_⟩⟩
      have s2:=same_upd (o:=.tup xs) hl2
      exact q _ _ (stA.same s2) (KnA.tup upd_same (by omega) fun x hx' => (hx x hx').ext s2.ext)
     ·refine ⟨_,rfl,l,xs,rfl,SqL.of hl3,fun Z2 l2 hl2 => ?_⟩
      refine comp_pairs (fun H' hs => SqL.of (hs _ _ hl3)) hl2 (by omega) fun σ H4 ps hs4 hl4 hn4 hP4 => ?_
      refine ⟨l2,ps,xs,rfl,hl4,hn4,hP4,fun l5 hl5 => ?_⟩
      exact q _ _ ((stA.same hs4).same (same_upd hl5)) (KnA.dct upd_same)
  obtain ⟨tt,htail,hread⟩:=tail
  refine ⟨_,pss_cons (ps_set (i:=2) scThing.nd rfl (Or.inl rfl) (pe_call D hr1 rfl m1 p1 b1 .nil pass0 (pa_v (pv 0) (pa_i (pe_ifExp (pt_cmpR op_lt (pv 1) pe_int (nomark _)) pe_int pe_int) pa_nil)))) <|
   pss_cons (ps_if (pt_cmpR op_eq (pv 2) pe_int (nomark _)) (pss_one (ps_ret (pe_ix ix_list (pe_lst (pa_q (pq_tf (pq_tf (pq_n pq_nil))))) (pe_call D hr1 rfl m1 p1 b1 .nil pass0 (pa_v (pv 0) (pa_c pe_int pa_nil))) (fun _ _ => rfl)))) pss_nil) <|
   pss_cons (ps_if (pt_cmpR op_lt (pv 2) pe_int (nomark _)) (pss_one (ps_ret (pe_ix ix_list (pe_lst (pa_q (pq_b (pe_op op_sub (pe_call D hr1 rfl m1 p1 b1 .nil pass0 (pa_v (pv 0) (pa_c pe_int pa_nil))) pe_int) (pq_u (pe_un un_neg (pe_op op_pow pe_int pe_int)) (pq_b (pe_op op_pow pe_int pe_int) (pq_b (pe_op op_pow pe_int pe_int) (pq_b (pe_op op_add (pe_op op_pow pe_int pe_int) pe_int) pq_nil))))))) (pe_call D hr1 rfl m1 p1 b1 .nil pass0 (pa_v (pv 0) (pa_c pe_int pa_nil))) (fun _ _ => rfl)))) pss_nil) <|
   pss_cons (ps_ifq (pt_cmpR op_lt (pv 2) pe_int (nomark _)) (retq (pq_s (pq_s (pq_s (pq_s (pq_s (pq_s (pq_s (pq_s (pq_b (pe_op op_rep_str pe_str pe_int) (pq_s pq_nil)))))))))) (pe_call D hr1 rfl m1 p1 b1 .nil pass0 (pa_v (pv 0) (pa_c pe_int pa_nil))) (fun _ _ => rfl)) (pssq_of pss_nil)) <|
   pss_cons (ps_set (i:=3) scThing.nd rfl (Or.inl rfl) (pe_call D hr1 rfl m1 p1 b1 .nil pass0 (pa_v (pv 0) (pa_c pe_int pa_nil)))) <|
   pss_cons (ps_if (PW.pt (pw_and (pt_cmpR op_eq (pv 1) pe_int (nomark _)) (pw_and1 (pt_cmpR op_eq (pe_call D hr1 rfl m1 p1 b1 .nil pass0 (pa_v (pv 0) (pa_c pe_int pa_nil))) pe_int (nomark _))))) (pss_one (ps_set (i:=3) scThing.nd rfl (Or.inl rfl) pe_int)) pss_nil) <|
   htail,?_⟩
  refine ⟨_,rfl,_,rfl,_,_,rfl,rfl,_,rfl,ite2d (fun h7 => ⟨p,9,rfl,hp,by decide,by decide,fun way H1 w0 w1 st => ?_⟩) fun h7 => ⟨p,6,rfl,hp,by decide,by decide,fun way H1 w0 w1 st => ?_⟩⟩
  all_goals
   refine ⟨_,rfl,rfl,_,rfl,ite2d (fun e0 => ?_) fun e0 => ?_⟩
   ·refine ⟨by show 3 ≤ sizeLine; decide,fun l hl => ?_⟩
    refine ⟨_,rfl,p,3,rfl,(st.same (same_upd hl)).pen,by decide,by decide,fun i H2 i0 i1 st2 => ?_⟩
    exact pickR st hl st2 i0 i1 (fun x hx H' => by simp at hx; rcases hx with rfl | rfl | rfl <;> first | exact KnA.bl _ | exact KnA.non) q
   ·refine ⟨_,rfl,_,_,rfl,rfl,_,rfl,ite2d (fun e1 => ?_) fun e1 => ?_⟩
    ·refine ⟨_,rfl,p,13,rfl,st.pen,by decide,by decide,fun j H2 j0 j1 st2 => ?_⟩
     refine ⟨_,_,rfl,rfl,_,_,rfl,rfl,⟨by decide,by decide,by decide⟩,_,rfl,_,_,rfl,rfl,⟨by decide,by decide,by decide⟩,_,_,rfl,rfl,⟨by decide,by decide,by decide⟩,_,_,rfl,rfl,⟨by decide,by decide,by decide⟩,_,_,rfl,rfl,?_⟩
     refine ⟨by show 5 ≤ sizeLine; decide,fun l hl => ?_⟩
     refine ⟨_,rfl,p,5,rfl,((st.trans st2).same (same_upd hl)).pen,by decide,by decide,fun i H3 i0 i1 st3 => ?_⟩
     exact pickR (st.trans st2) hl st3 i0 i1 (fun x hx H' => by simp at hx; rcases hx with rfl | rfl | rfl | rfl | rfl <;> exact KnA.int _) q
    ·refine ⟨_,rfl,_,_,rfl,rfl,_,rfl,ite2d (fun e2 => ?_) fun e2 => ?_⟩
     ·refine ⟨_,1000,rfl,rfl,by decide,by decide,by decide +kernel,fun z' => ?_⟩
      refine ⟨by show 10 ≤ sizeLine; decide,fun l hl => ?_⟩
      refine ⟨_,rfl,p,10,rfl,(st.same (same_upd hl)).pen,by decide,by decide,fun i H2 i0 i1 st2 => ?_⟩
      refine pickR st hl st2 i0 i1 (fun x hx H' => ?_) q
      simp only [List.mem_cons,List.not_mem_nil,or_false] at hx
      rcases hx with rfl | rfl | rfl | rfl | rfl | rfl | rfl | rfl | rfl | rfl <;> exact KnA.str _
     ·refine ⟨_,rfl,p,4,rfl,st.pen,by decide,by decide,fun many H2 m0 m1 st2 => ?_⟩
      have hd7:d < 7:=by omega
      refine ⟨_,rfl,rfl,_,rfl,ite2d (fun e6 => ?_) fun e6 => ?_⟩
      ·refine ⟨_,rfl,p,40,rfl,st2.pen,by decide,by decide,fun z H3 z0 z1 st3 => ?_⟩
       refine ⟨rfl,_,rfl,ite2d (fun ez => ?_) fun ez => ?_⟩
       ·exact hread way 100 H3 hd7 (by decide) (by decide) ((st.trans st2).trans st3)
       ·exact hread way many H3 hd7 m0 (by omega) ((st.trans st2).trans st3)
      ·refine iteF ?_
       exact hread way many H2 hd7 m0 (by omega) (st.trans st2)
theorem ok_thing {f g:Addr} {fd gd:FuncData} (F:Fun K "_law_thing" "_law_thing" sThing f fd) (T:Txt mg) (T2:Txt2 mg) (mT:mg "_law_thing" = some (.ref f)) (bT:Binds K fd ["_law_pen_here","_law_deep"] [])
  (b1:Binds K gd ["_law_pen_here","_law_many"] []) (m1:mg "_law_draw" = some (.ref g)) (p1:PySem.W.keepIn K (.ref g) = true) (D:FnOk P w K mg base CX0 1 g gd ["_law_pen_here","_law_many"] spDraw) :
  ∀ n:Nat,FnOk P w K mg base CX0 (n + 2) f fd ["_law_pen_here","_law_deep"] (spThing (7 - (n:Int)))
 | 0 => thing_step (k:=1) (by decide) F T T2 mT bT FnOk.never b1 m1 p1 D (7 - ((0:Nat):Int)) fun h => absurd h (by decide)
 | n + 1 => by
  refine thing_step (k:=n + 2) (by omega) F T T2 mT bT (ok_thing F T T2 mT bT b1 m1 p1 D n) b1 m1 p1 D (7 - ((n + 1:Nat):Int)) fun _ p H Q E hp hq => ?_
  have e:7 - ((n + 1:Nat):Int) + 1 = 7 - (n:Int):=by omega
  rw [e]
  exact ⟨p,rfl,hp,hq⟩
end
end M43
namespace L2
open PySem PySem.Spec PyProof.Rows
structure ExcD (K:PySem.W.Frag) (D:Addr):Prop where
 ex:PySem.W.excIn K D bmV "ValueError.__new__" = true
 cl:PySem.W.findIn K (.ref D) "__class__" = some (some (.builtin "object.__class__"))
 ga:PySem.W.findIn K (.ref D) "__getattribute__" = some (some (.builtin "BaseException.__getattribute__"))
 gt:PySem.W.findIn K (.ref D) "__getattr__" = some none
 mo:PySem.W.mroIn K D (.type "object") = some true
 mb:PySem.W.mroIn K D (.type "BaseException") = some true
 gg:PySem.W.specialIn K (.builtin "object.__class__") "__get__" = some (some (.builtin "getset_descriptor.__get__"))
 tk:PySem.W.takesIn K (.builtin "object.__class__") = some true
end L2
namespace L2
open PySem PySem.W PySem.Calls PyProof.Rows Builtin Builtin.ObjectAttr Builtin.Getset_descriptor
section
variable {prog:Program} {w:World} {A:Around} {E:Value→Shared→Prop} {K:PySem.W.Frag} {x D:Addr}
theorem exc_find {M:Model} {h:Heap} (X:K.In h) (c:ExcD K D):PySem.W.Looks M h (find (.ref x) (.ref D) "__class__") (.bind (.builtin "getset_descriptor.__get__") (.builtin "object.__class__")):=by
 refine (PySem.W.looks_findIn X c.cl).andThen ?_
 refine PySem.W.Looks.andThen (a:=some (Value.builtin "getset_descriptor.__get__")) (PySem.W.looks_specialIn X c.gg) ?_
 refine PySem.W.Looks.andThen (a:=some (Value.builtin "getset_descriptor.__get__",Value.builtin "object.__class__")) ?_ (PySem.W.Looks.tag .now)
 exact (PySem.W.looks_takesIn X c.tk).andThen .now
theorem exc_get {R:Result→Shared→Prop} {s:Shared} {tp:Value} (X:K.In s.heap) (L0:PySem.W.Looks (model prog w) s.heap (typeOf (.ref x)) (.ref D)) (c:ExcD K D) (h:R (.ok (.ret (.ref D))) s) :
  codeAny (model prog w) A (.call (.builtin "getset_descriptor.__get__") ⟨[.builtin "object.__class__",.ref x,tp],[]⟩) R s:=by
 obtain ⟨hh,g,dr,t,os⟩:=s
 have LM:=PySem.W.looks_mroIn (M:=model prog w) X c.mo
 refine codeAny_call_builtin KF.slot_gs.plain KF.entry_gs (KF.slot_gs.check _ _ _ _ _ _ _ _ KF.type_class (KF.args_gs _ _ _) ?_); unfold Builtin.«getset_descriptor.__get__» descrGet; rw [dga_obj]
 refine wpAny_bind (wpAny_pure ?_); unfold descrGetter descrCheckInstance descrNameAndClass isInstance; simp only [KF.owner_class]; repeat lk
 refine ⟨Code.quiet_builtin _ (by decide +kernel),codeAny_builtin KF.entry_class ?_⟩; unfold Builtin.«object.__class__» shownTypeOf; repeat lk
 exact h
theorem exc_class {s:Shared} {Q:Option Value→Shared→Prop} (X:K.In s.heap) {o:Obj} (hx:s.heap.get? x = some o) (hc:o.cls = .ref D) (c:ExcD K D) (h:Q (some (.ref D)) { s with toks:=s.toks + 1 }) :
  wpAny (model prog w) A (getAttr? (.ref x) "__class__") Q E s:=by
 obtain ⟨hh,g,d,t,os⟩:=s
 have hx:hh.get? x = some o:=hx
 have L0:Looks (model prog w) hh (typeOf (.ref x)) (.ref D):=hc ▸ (Looks.ld hx).andThen .now
 have L1:=looks_findIn (M:=model prog w) X c.ga
 have L2':=looks_findIn (M:=model prog w) X c.gt
 have LB:=looks_mroIn (M:=model prog w) X c.mb
 have LF:=exc_find (x:=x) (M:=model prog w) X c
 unfold getAttr? getAttrBy? getAttrBy
 refine wpAny_bind (wpAny_mkText (wpAny_bind (wpAny_attempt (wpAny_holding (wpAny_bind (L0.at (wpAny_bind (L1.at ?_))))))))
 have hne:(onTheHeap (Value.ref D) && Value.builtin "BaseException.__getattribute__" == Value.builtin "object.__getattribute__") = false:=by
  rw [show (Value.builtin "BaseException.__getattribute__" == Value.builtin "object.__getattribute__") = false by decide +kernel]; rfl
 dsimp only
 rw [if_neg (by rw [hne]; decide)]
 unfold getAttrByItsOwn hookBefore
 rw [if_pos (show onTheHeap (Value.ref D) = true from rfl)]
 refine wpAny_bind (L2'.at (wpAny_bind (wpAny_attempt (wpAny_holding ?_))))
 unfold callGetattribute boundAndCalled
 rw [if_neg (by decide)]
 refine wpAny_bind (wpAny_of_eq (PySem.F.attr_ValueError.ga.bind (.ref x)) ?_)
 refine wpAny_call (codeAny_call_builtin PySem.F.attr_ValueError.ga.plain PySem.F.entry_bexc_ga ?_)
 have hk:builtinKind "BaseException.__getattribute__" = some .slot:=by decide +kernel
 have hsp:splitId "BaseException.__getattribute__" = some ("BaseException","__getattribute__"):=by decide +kernel
 have ha:=PySem.F.args_bexc_ga (.ref x) (.str "__class__" t)
 simp only [checkBuiltinCall,hk,hsp]
 have LI:Looks (model prog w) hh (isInstance (.ref x) (.type "BaseException")) true:=L0.andThen LB
 refine wpAny_bind (LI.at ?_)
 repeat (first | assumption | wp_step)
 rw [hc]
 have LC:=looks_findIn (M:=model prog w) X c.cl
 have LG:Looks (model prog w) hh (getOf (some (Value.builtin "object.__class__"))) (some (Value.builtin "getset_descriptor.__get__")):=looks_specialIn X c.gg
 have LD:Looks (model prog w) hh (dataDescriptor? (some (Value.builtin "object.__class__")) (some (Value.builtin "getset_descriptor.__get__"))) (some (Value.builtin "getset_descriptor.__get__",Value.builtin "object.__class__")):=(looks_takesIn X c.tk).andThen .now
 refine LC.at (wpAny_bind (LG.at (wpAny_bind (LD.at (wpAny_bind (wpAny_rule (wpAny_pure ?_)))))))
 dsimp only
 unfold bindTo
 dsimp only
 refine wpAny_bind (wpAny_holding (wpAny_call (exc_get (s:=⟨hh,g,d,t + 1,os⟩) X L0 c (wpAny_pure ?_))))
 exact handed_on rfl (wpAny_pure h)
end
theorem kitx_exc {K:PySem.W.Frag} {x D:Addr} (c:ExcD K D):PySem.W.KitX K (.ref x) (.ref D) (fun h => ∃ o,h.get? x = some o∧o.cls = .ref D) where
 ty:=fun M h _ z => let ⟨o,h1,h2⟩:=z; h2 ▸ (PySem.W.Looks.ld h1).andThen .now
 it:=fun M h X _ => by
  obtain ⟨bm,N,nm,q,bs,hdct,sn,sub,ab,col,dd,k0,k1,k2,k3,k5,mN,hC,_⟩:=ExcC.obj (C:=D) ⟨c.ex⟩ X
  intro A' Q' E' s' k z
  unfold isType loadHead
  exact wpAny_bind (wpAny_loadPart (k _ _ hC) (wpAny_pure z))
 ne:=fun h tp dd its n sl X htp => Bool.eq_false_iff.mpr fun q => by
  obtain ⟨bm,N,nm,q',bs,hdct,sn,sub,ab,col,dd,k0,k1,k2,k3,k5,mN,hC,_⟩:=ExcC.obj (C:=D) ⟨c.ex⟩ X
  have e:D = tp:=Value.ref.inj (beq_iff_eq.mp q)
  subst e
  have z:Value.type "type" = Value.type "tuple":=congrArg Obj.cls (Option.some.inj (hC.symm.trans htp))
  injection z with z
  exact absurd z (by decide)
 ca:=fun X z k => let ⟨o,h1,h2⟩:=z; exc_class X h1 h2 c k
end L2
namespace L2
open PySem PySem.Spec PyProof.Rows
theorem call_isinstX {X:Cx} {e D:Addr} {oe:Obj} (c:ExcD X.K D):CallR (X.within e oe) (.builtin "isinstance") (fun xs H Q => oe.cls = .ref D∧((∃ C b,xs = [.ref e,.ref C]∧PySem.W.kitOne X.K (.ref D) (.ref C) = some b∧Q (.bl b) H) ∨ ∃ T b,xs = [.ref e,.ty T]∧PySem.W.kitOne X.K (.ref D) (.type T) = some b∧Q (.bl b) H)):=by
 intro pins s σ H xs us Q I r h
 obtain ⟨hc,h⟩:=h
 have hp:s.heap.get? e = some oe:=(I.pin (e,oe) (List.mem_append_left _ List.mem_cons_self)).1
 rcases h with ⟨C,b,rfl,k,q⟩ | ⟨T,b,rfl,k,q⟩
 ·obtain ⟨u,w',rfl,rx,ry⟩:=vals2 r
  cases rx
  cases ry
  exact PySem.W.kia_one (kitx_exc c) I.kIn ⟨oe,hp,hc⟩ k (fun z => nomatch z) fun tk => ⟨.bl b,H,I.tok _,rfl,q⟩
 ·obtain ⟨u,w',rfl,rx,ry⟩:=vals2 r
  cases rx
  cases (show w' = Value.type T from ry)
  exact PySem.W.kia_one (kitx_exc c) I.kIn ⟨oe,hp,hc⟩ k (fun z => nomatch z) fun tk => ⟨.bl b,H,I.tok _,rfl,q⟩
theorem call_isinstTs {X:Cx}:CallR X (.builtin "isinstance") (fun xs H Q => ∃ x t ty b,∃ Ts:List String,xs = [x,.ref t]∧H t = some (.tup (Ts.map V.ty))∧TyOf X.K H x ty∧(∃ T,ty = .type T)∧PySem.W.kitAny X.K ty (Ts.map Value.type) = some b∧Q (.bl b) H):=by
 intro pins s σ H xs us Q I r h
 obtain ⟨x,t,ty,b,Ts,rfl,ht,hty,⟨T,rfl⟩,k,q⟩:=h
 obtain ⟨u,w',rfl,rx,ry⟩:=vals2 r
 cases ry
 obtain ⟨its,rv,⟨⟨c1,d1,t1,l1⟩,ho,hc,n,hd⟩,_⟩:=I.tuple (SqT.of ht)
 simp only at hc hd
 subst hc hd
 have e:its = Ts.map Value.type:=by
  have go:∀ (Ts:List String) (us:List Value),Vals (Ts.map V.ty) us→us = Ts.map Value.type:=by
   intro Ts
   induction Ts with
   | nil => intro us h; cases h; rfl
   | cons T Ts ih => intro us h; cases h with | cons a b => rw [show _ = Value.type T from a,ih _ b]; rfl
  exact go Ts its rv
 subst e
 have fin:∀ tk,EP X pins σ Q (.bool b) { s with toks:=tk }:=fun tk => ⟨.bl b,H,I.tok _,rfl,q⟩
 cases hty with
 | non => cases (show u = Value.none from rx); exact PySem.W.kia_tup PySem.W.kitx_none I.kIn True.intro ho k (fun z => nomatch z) fin
 | bl y => cases (show u = Value.bool y from rx); exact PySem.W.kia_tup PySem.W.kitx_bool I.kIn True.intro ho k (fun z => nomatch z) fin
 | int i => obtain ⟨t,z⟩:=(show ∃ t,u = Value.int i t from rx); cases z; exact PySem.W.kia_tup PySem.W.kitx_int I.kIn True.intro ho k (fun z => nomatch z) fin
 | str y => obtain ⟨t,z⟩:=(show ∃ t,u = Value.str y t from rx); cases z; exact PySem.W.kia_tup PySem.W.kitx_str I.kIn True.intro ho k (fun z => nomatch z) fin
 | flt y => obtain ⟨t,z⟩:=(show ∃ t,u = Value.float y t from rx); cases z; exact PySem.W.kia_tup PySem.W.kitx_float I.kIn True.intro ho k (fun z => nomatch z) fin
 | @lst a xs ea =>
  cases (show u = Value.ref a from rx)
  obtain ⟨_,_,n,_,h1⟩:=(show ObjOk X.prog X.w H s.heap a (.lst xs) from I.hok a _ ea)
  exact PySem.W.kia_tup PySem.W.kitx_list I.kIn ⟨_,h1,rfl⟩ ho k (fun z => nomatch z) fin
 | @frz a ob xs ea =>
  cases (show u = Value.ref a from rx)
  obtain ⟨_,_,_,n,_,h1⟩:=(show ObjOk X.prog X.w H s.heap a (.frz ob (.lst xs)) from I.hok a _ ea)
  exact PySem.W.kia_tup PySem.W.kitx_list I.kIn ⟨_,h1,rfl⟩ ho k (fun z => nomatch z) fin
 | @tup a xs ea =>
  cases (show u = Value.ref a from rx)
  obtain ⟨_,_,_,p⟩:=(show ObjOk X.prog X.w H s.heap a (.tup xs) from I.hok a _ ea)
  obtain ⟨o,h1,h2,_⟩:=p
  exact PySem.W.kia_tup PySem.W.kitx_tuple I.kIn ⟨o,h1,h2⟩ ho k (fun z => nomatch z) fin
 | @dK a kvs ea =>
  cases (show u = Value.ref a from rx)
  obtain ⟨_,_,vs,_,p⟩:=(show ObjOk X.prog X.w H s.heap a (.dK kvs) from I.hok a _ ea)
  obtain ⟨o,es,ep,h1,h2,_⟩:=p
  exact PySem.W.kia_tup PySem.W.kitx_dict I.kIn ⟨o,h1,h2.1⟩ ho k (fun z => nomatch z) fin
 | @dT a kvs ea =>
  cases (show u = Value.ref a from rx)
  obtain ⟨_,_,xs,_,o,es,ep,h1,h2,_⟩:=(show ObjOk X.prog X.w H s.heap a (.dT kvs) from I.hok a _ ea)
  exact PySem.W.kia_tup PySem.W.kitx_dict I.kIn ⟨o,h1,h2.1⟩ ho k (fun z => nomatch z) fin
theorem PI.or {X:Cx} {tg iter:Expr} {w1 w2:TI} (h1:PI X tg iter w1) (h2:PI X tg iter w2):PI X tg iter (fun σ H R => w1 σ H R ∨ w2 σ H R):=by
 intro pins s σ H R I h
 rcases h with h | h
 ·exact h1 pins s σ H R I h
 ·exact h2 pins s σ H R I h
end L2
namespace M43
open PySem L2 PyProof.Rows Grd
noncomputable abbrev sSame:Stmt:=top 42
noncomputable abbrev sLCells:Stmt:=top 45
noncomputable def flatEq (a b:V):Prop:=a = b∧((∃ i,a = .int i) ∨ (∃ x,a = .str x) ∨ ∃ y,a = .bl y)
noncomputable def SameV (H:Hp):Nat→V→V→Prop
 | 0,a,b => flatEq a b
 | n + 1,a,b => flatEq a b ∨ ∃ p q xs ys,a = .ref p∧b = .ref q∧((H p = some (.lst xs)∧H q = some (.lst ys)) ∨ (H p = some (.tup xs)∧H q = some (.tup ys)))∧xs.length ≤ 1000∧Paired (SameV H n) xs ys
theorem SameV.same {H H':Hp} (s:Same H H'):∀ {n:Nat} {a b:V},SameV H n a b→SameV H' n a b
 | 0,_,_,h => h
 | n + 1,a,b,h => by
  rcases h with h | ⟨p,q,xs,ys,h1,h2,h3,h4,h5⟩
  ·exact .inl h
  ·refine .inr ⟨p,q,xs,ys,h1,h2,?_,h4,Paired.mapP h5 fun _ _ z => SameV.same s z⟩
   rcases h3 with ⟨u,v⟩ | ⟨u,v⟩
   ·exact .inl ⟨s _ _ u,s _ _ v⟩
   ·exact .inr ⟨s _ _ u,s _ _ v⟩
theorem SameV.int {H:Hp} (n:Nat) (i:Int):SameV H n (.int i) (.int i):=by cases n with | zero => exact ⟨rfl,.inl ⟨i,rfl⟩⟩ | succ n => exact .inl ⟨rfl,.inl ⟨i,rfl⟩⟩
theorem SameV.bl {H:Hp} (n:Nat) (y:Bool):SameV H n (.bl y) (.bl y):=by cases n with | zero => exact ⟨rfl,.inr (.inr ⟨y,rfl⟩)⟩ | succ n => exact .inl ⟨rfl,.inr (.inr ⟨y,rfl⟩)⟩
theorem SameV.str {H:Hp} (n:Nat) (x:Str):SameV H n (.str x) (.str x):=by cases n with | zero => exact ⟨rfl,.inr (.inl ⟨x,rfl⟩)⟩ | succ n => exact .inl ⟨rfl,.inr (.inl ⟨x,rfl⟩)⟩
noncomputable def spSame (n:Nat):Sp:=fun vs H Q _ => ∃ a b,vs = [a,b]∧SameV H n a b∧∀ H',Same H H'→Q (.bl true) H'
theorem pairedGet {α β:Type} {F:α→β→Prop}:∀ {l₁:List α} {l₂:List β} {i:Nat} {a:α} {b:β},Paired F l₁ l₂→l₁[i]? = some a→l₂[i]? = some b→F a b
 | _,_,0,_,_,.cons r _,h1,h2 => by cases h1; cases h2; exact r
 | _,_,i + 1,_,_,.cons _ t,h1,h2 => pairedGet (i:=i) t (by simpa using h1) (by simpa using h2)
section
variable {P:Program} {w:World} {K:PySem.W.Frag} {mg:Str→Option Value} {base:Heap}
theorem scSame:FnScope ["_law_thing_here","_law_due"] ["_law_thing_here","_law_due"] (defScope sSame):=⟨rfl,rfl,rfl,by decide +kernel,rfl,by decide +kernel,by decide +kernel⟩
theorem ndOO:(["_law_one","_law_other"]:List Str).Nodup:=by decide +kernel
theorem same_step {f:Addr} {fd:FuncData} {k:Nat} {spR:Sp} (F:Fun K "_law_same" "_law_same" sSame f fd) (T:Txt mg) (T2:Txt2 mg) (mS:mg "_law_same" = some (.ref f)) (bS:L2.Binds K fd ["_law_thing_here","_law_due"] [])
    (G:FnOk P w K mg base CX0 k f fd ["_law_thing_here","_law_due"] spR) (SR:Hp→V→V→Prop) (hSR:∀ H H',Same H H'→∀ a b,SR H a b→SR H' a b) (hR:∀ a b H Q E,SR H a b→(∀ H',Same H H'→Q (.bl true) H')→spR [a,b] H Q E) :
    FnOk P w K mg base CX0 (k + 1) f fd ["_law_thing_here","_law_due"] (fun vs H Q _ => ∃ a b,vs = [a,b]∧(flatEq a b ∨ ∃ p q xs ys,a = .ref p∧b = .ref q∧((H p = some (.lst xs)∧H q = some (.lst ys)) ∨ (H p = some (.tup xs)∧H q = some (.tup ys)))∧xs.length ≤ 1000∧Paired (SR H) xs ys)∧∀ H',Same H H'→Q (.bl true) H'):=by
  refine F.ok scSame (fun vs H Q E h => ?_) (fun cdv A outer s H vs Q E hr h => ?_)
  · obtain ⟨a,b,rfl,_⟩:=h; rfl
  · obtain ⟨a,b,rfl,hS,q⟩:=h
    refine ⟨_,pss_cons (ps_if (pt_val (pe_callB call_isinstTs rfl T.isinstance boot_isinstance (pa_v (pv 1) (pa_t (pe_tup (pa_v (pe_bltn (v:=.ty "list") rfl T2.list boot_list rfl) (pa_v (pe_bltn (v:=.ty "tuple") rfl T.tuple boot_tuple rfl) pa_nil))) pa_nil))))
        (pss_cons (ps_if (PW.pt (pw_or (pt_not (pt_val (pe_callB call_isinstTs rfl T.isinstance boot_isinstance (pa_v (pv 0) (pa_t (pe_tup (pa_v (pe_bltn (v:=.ty "list") rfl T2.list boot_list rfl) (pa_v (pe_bltn (v:=.ty "tuple") rfl T.tuple boot_tuple rfl) pa_nil))) pa_nil)))))
            (pw_or1 (pt_cmpR op_ne (pe_callB call_isinst rfl T.isinstance boot_isinstance (pa_v (pv 0) (pa_v (pe_bltn (v:=.ty "list") rfl T2.list boot_list rfl) pa_nil))) (pe_callB call_isinst rfl T.isinstance boot_isinstance (pa_v (pv 1) (pa_v (pe_bltn (v:=.ty "list") rfl T2.list boot_list rfl) pa_nil))) (nomark _))))) (pss_one (ps_ret pe_bl)) pss_nil) <|
         pss_cons (ps_if (pt_cmpR op_ne (pe_callB call_len_seq rfl T.len PySem.boot_len (pa_v (pv 0) pa_nil)) (pe_callB call_len_seq rfl T.len PySem.boot_len (pa_v (pv 1) pa_nil)) (nomark _)) (pss_one (ps_ret pe_bl)) pss_nil) <|
         pss_one (ps_ret (pe_callB (call_all rfl) rfl T.all boot_all (pa_lc (pe_comp1 (defScope sSame).names ["_law_thing_here","_law_due"] ["_law_one","_law_other"] [] rfl (PI.or (pi_zip kL_ok rfl T2.zip (pa_v (pv 0) (pa_v (pv 1) pa_nil))) (pi_zip kT_ok rfl T2.zip (pa_v (pv 0) (pa_v (pv 1) pa_nil)))) rfl rfl rfl (by decide +kernel)
            (fun Z => pg_tup rfl (pgs_cons (pg_name (i:=0) ndOO rfl (Or.inl rfl)) (pgs_cons (pg_name (i:=1) ndOO rfl (Or.inl rfl)) pgs_nil))) (fun Z => pts_nil) (fun Z => pe_call G hr rfl mS F.kp bS .nil pass0 (pa_v (pv 0) (pa_v (pv 1) pa_nil)))) pa_nil)))) pss_nil) <|
      pss_cons (ps_if (pt_cmpR op_isN (pv 1) pe_non (nomark _)) (pss_one (ps_ret (pe_cmpR op_isN (pv 0) pe_non (nomark _)))) pss_nil) <|
      pss_one (ps_ret (pe_and (pe_cmpR op_eq (pe_callB call_isinst rfl T.isinstance boot_isinstance (pa_v (pv 0) (pa_v (pe_bltn (v:=.ty "bool") rfl T.bool boot_bool rfl) pa_nil))) (pe_callB call_isinst rfl T.isinstance boot_isinstance (pa_v (pv 1) (pa_v (pe_bltn (v:=.ty "bool") rfl T.bool boot_bool rfl) pa_nil))) (nomark _)) (pe_one (pe_cmpR op_eq (pv 0) (pv 1) (nomark _))))),?_⟩
    rcases hS with ⟨rfl,hf⟩ | ⟨p,qq,xs,ys,rfl,rfl,hpq,hz,hP⟩
    · -- a number or a text
      obtain ⟨ty,hty,hT,hk,hb,hnn,hsc⟩:∃ ty,TyOf K H a ty∧(∃ T,ty = .type T)∧PySem.W.kitAny K ty (["list","tuple"].map Value.type) = some false∧(∃ kb,PySem.W.kitOne K ty (.type "bool") = some kb)∧a ≠ .non∧scal a a = true:=by
        rcases hf with ⟨i,rfl⟩ | ⟨x,rfl⟩ | ⟨y,rfl⟩
        · exact ⟨_,.int i,⟨_,rfl⟩,by kernel_rfl,⟨false,by kernel_rfl⟩,(fun z => by cases z),rfl⟩
        · exact ⟨_,.str x,⟨_,rfl⟩,by kernel_rfl,⟨false,by kernel_rfl⟩,(fun z => by cases z),rfl⟩
        · exact ⟨_,.bl y,⟨_,rfl⟩,by kernel_rfl,⟨true,by kernel_rfl⟩,(fun z => by cases z),rfl⟩
      refine ⟨_,rfl,by show 2 ≤ sizeLine; decide,fun t ht => ?_⟩
      have s1:=same_upd (o:=.tup [.ty "list",.ty "tuple"]) ht
      have hty1:∃ ty,TyOf K (upd H t (.tup [.ty "list",.ty "tuple"])) a ty∧(∃ T,ty = .type T)∧PySem.W.kitAny K ty (["list","tuple"].map Value.type) = some false∧(∃ kb,PySem.W.kitOne K ty (.type "bool") = some kb):=by
        rcases hf with ⟨i,rfl⟩ | ⟨x,rfl⟩ | ⟨y,rfl⟩
        · exact ⟨_,.int i,⟨_,rfl⟩,by kernel_rfl,⟨false,by kernel_rfl⟩⟩
        · exact ⟨_,.str x,⟨_,rfl⟩,by kernel_rfl,⟨false,by kernel_rfl⟩⟩
        · exact ⟨_,.bl y,⟨_,rfl⟩,by kernel_rfl,⟨true,by kernel_rfl⟩⟩
      obtain ⟨ty1,a1,a2,a3,kb,a4⟩:=hty1
      refine ⟨_,t,ty1,false,["list","tuple"],rfl,upd_same,a1,a2,a3,_,rfl,iteF ?_⟩
      refine ⟨_,rfl,rfl,_,rfl,?_⟩
      rw [decide_eq_false hnn]
      refine iteF ?_
      refine ⟨_,rfl,_,"bool",ty1,kb,rfl,a1,a4,_,rfl,_,"bool",ty1,kb,rfl,a1,a4,rfl,_,rfl,?_⟩
      rw [decide_eq_true rfl]
      refine iteT ⟨_,rfl,_,rfl,hsc,?_⟩
      rw [decide_eq_true rfl]
      exact q _ s1
    · have hlen:xs.length = ys.length:=Paired.length hP
      -- both of one kind
      refine ⟨_,rfl,by show 2 ≤ sizeLine; decide,fun t ht => ?_⟩
      have s1:=same_upd (o:=.tup [.ty "list",.ty "tuple"]) ht
      have kinds:∃ T,(T = "list" ∨ T = "tuple")∧(∀ H',Same H H'→TyOf K H' (.ref p) (.type T)∧TyOf K H' (.ref qq) (.type T))∧PySem.W.kitAny K (.type T) (["list","tuple"].map Value.type) = some true∧PySem.W.kitOne K (.type T) (.type "list") = some (decide (T = "list")):=by
        rcases hpq with ⟨h1,h2⟩ | ⟨h1,h2⟩
        · exact ⟨"list",.inl rfl,fun H' s => ⟨.lst (s _ _ h1),.lst (s _ _ h2)⟩,by kernel_rfl,by kernel_rfl⟩
        · exact ⟨"tuple",.inr rfl,fun H' s => ⟨.tup (s _ _ h1),.tup (s _ _ h2)⟩,by kernel_rfl,by kernel_rfl⟩
      obtain ⟨TT,hTT,hk,k1,k2⟩:=kinds
      refine ⟨_,t,.type TT,true,["list","tuple"],rfl,upd_same,(hk _ s1).2,⟨_,rfl⟩,k1,_,rfl,iteT ?_⟩
      refine ⟨_,rfl,by show 2 ≤ sizeLine; decide,fun t2 ht2 => ?_⟩
      have s2:=s1.trans (same_upd (o:=.tup [.ty "list",.ty "tuple"]) ht2)
      refine ⟨_,t2,.type TT,true,["list","tuple"],rfl,upd_same,(hk _ s2).1,⟨_,rfl⟩,k1,_,rfl,iteF ?_⟩
      refine ⟨_,rfl,_,"list",.type TT,_,rfl,(hk _ s2).1,k2,_,rfl,_,"list",.type TT,_,rfl,(hk _ s2).2,k2,rfl,_,rfl,iteNS rfl ?_⟩
      have sq:∀ H',Same H H'→(SqL K H' p xs ∨ SqT K H' p xs)∧(SqL K H' qq ys ∨ SqT K H' qq ys):=fun H' s => by
        rcases hpq with ⟨h1,h2⟩ | ⟨h1,h2⟩
        · exact ⟨.inl (SqL.of (s _ _ h1)),.inl (SqL.of (s _ _ h2))⟩
        · exact ⟨.inr (SqT.of (s _ _ h1)),.inr (SqT.of (s _ _ h2))⟩
      refine ⟨_,rfl,p,xs,rfl,(sq _ s2).1,_,rfl,qq,ys,rfl,(sq _ s2).2,rfl,_,rfl,iteNS (by rw [hlen]) ?_⟩
      -- the loop,of lists or of tuples
      have loop:∀ (kk:SeqK),(∀ H',Same H H'→kk.Sq K H' p xs∧kk.Sq K H' qq ys)→∀ (l:Addr) (H2:Hp),Same H H2→H2 l = none→∀ (Q':L2.St→Hp→Prop),(∀ σ H',Same H2 H'→H' l = some (.lst (xs.map fun _ => V.bl true))→Q' σ H') →
          tForJ (Itz (fun H xs => kk.Sq K H p xs) fun H ys => kk.Sq K H qq ys) (gTup K 2 (gCons (gName 0) (gCons (gName 1) gNil))) (tBodyC tAll (tEmit l (tCall spR [] E0 (tCons (tVar 0) (tCons (tVar 1) tNil))))) (eC Q') [none,none] (upd H2 l (.lst [])):=by
        intro kk hkk l H2 sH hl Q' hQ'
        refine for_zip (xs:=xs) (ys:=ys) hlen (fun i σ H' => σ.length = 2∧Same H2 H'∧H' l = some (.lst ((xs.take i).map fun _ => V.bl true))) ⟨rfl,same_upd hl,by rw [upd_same]; rfl⟩ (fun i σ H' h => hkk H' (sH.trans h.2.1)) ?_ ?_
        · rintro i x y p3 σ H' hx hy ⟨hσ,hs,hl'⟩ hp3
          match σ,hσ with
          | [x0,x1],_ =>
          have s3:=same_upd (o:=.tup [x,y]) hp3
          refine ⟨p3,_,rfl,SqT.of upd_same,rfl,_,_,rfl,_,_,rfl,rfl,?_⟩
          refine body_all ?_
          refine ⟨_,rfl,_,rfl,?_⟩
          refine hR x y _ _ _ (hSR _ _ ((sH.trans hs).trans s3) x y (pairedGet hP hx hy)) fun H4 s4 => ?_
          refine ⟨_,s4 _ _ (s3 _ _ hl'),small1000 (by rw [List.length_map,List.length_take]; omega),rfl,fun b' u e' => ?_,?_⟩
          · rw [upd_ne (ne_of_none e' hl)]; exact s4 _ _ (s3 _ _ (hs _ _ e'))
          · rw [upd_same,List.take_succ,hx,List.map_append]; rfl
        · rintro σ H' ⟨_,hs,hl'⟩
          rw [List.take_of_length_le (Nat.le_refl _)] at hl'
          exact hQ' σ H' hs hl'
      have fin:∀ (l:Addr) (H2:Hp),Same H H2→∀ (σ:L2.St) (H':Hp),Same H2 H'→H' l = some (.lst (xs.map fun _ => V.bl true))→∃ (p:Addr) (bs:List Bool),[V.ref l] = [.ref p]∧SqL K H' p (bs.map V.bl)∧Q (.bl (bs.all id)) H':=fun l H2 sH σ H' hs hl' => by
        refine ⟨l,xs.map fun _ => true,rfl,SqL.of (by rw [hl',List.map_map]; rfl),?_⟩
        have:(xs.map fun _ => true).all id = true:=by simp
        rw [this]
        exact q H' (sH.trans hs)
      rcases hpq with ⟨h1,h2⟩ | ⟨h1,h2⟩
      · refine .inl ⟨_,rfl,_,rfl,p,qq,xs,ys,rfl,SqL.of (s2 _ _ h1),SqL.of (s2 _ _ h2),fun Z l hl => ?_⟩
        exact loop kL (fun H' s => ⟨SqL.of (s _ _ h1),SqL.of (s _ _ h2)⟩) l _ s2 hl _ fun σ H' hs hl' => fin l _ s2 σ H' hs hl'
      · refine .inr ⟨_,rfl,_,rfl,p,qq,xs,ys,rfl,SqT.of (s2 _ _ h1),SqT.of (s2 _ _ h2),fun Z l hl => ?_⟩
        exact loop kT (fun H' s => ⟨SqT.of (s _ _ h1),SqT.of (s _ _ h2)⟩) l _ s2 hl _ fun σ H' hs hl' => fin l _ s2 σ H' hs hl'
theorem ok_same {f:Addr} {fd:FuncData} (F:Fun K "_law_same" "_law_same" sSame f fd) (T:Txt mg) (T2:Txt2 mg) (mS:mg "_law_same" = some (.ref f)) (bS:L2.Binds K fd ["_law_thing_here","_law_due"] []):∀ n:Nat,FnOk P w K mg base CX0 (n + 1) f fd ["_law_thing_here","_law_due"] (spSame n)
 | 0 => (same_step (k:=0) F T T2 mS bS FnOk.never (fun _ _ _ => False) (fun _ _ _ _ _ z => z) (fun _ _ _ _ _ z => z.elim)).imp fun vs H Q E h => by
  obtain ⟨a,b,e,h1,h2⟩:=h
  exact ⟨a,b,e,.inl h1,h2⟩
 | n + 1 => (same_step (k:=n + 1) F T T2 mS bS (ok_same F T T2 mS bS n) (fun H a b => SameV H n a b) (fun H H' s a b z => SameV.same s z) (fun a b H Q E h q => ⟨a,b,rfl,h,q⟩)).imp fun vs H Q E h => by
  obtain ⟨a,b,e,h1,h2⟩:=h
  exact ⟨a,b,e,h1,h2⟩
noncomputable abbrev nLC:List Str:=["_law_mead_here","_law_found","_law_row","_law_numbers"]
theorem scLC:FnScope nLC ["_law_mead_here"] (defScope sLCells):=⟨rfl,rfl,rfl,by decide +kernel,rfl,by decide +kernel,by decide +kernel⟩
theorem ndCN:(["_law_column","_law_number","_law_row"]:List Str).Nodup:=by decide +kernel
theorem ok_lcells {f:Addr} {fd:FuncData} (F:Fun K "_law_cells" "_law_cells" sLCells f fd) (T:Txt mg):FnOk P w K mg base CX0 1 f fd ["_law_mead_here"] (spGrid pos):=by
 refine F.ok scLC (fun vs H Q E h => ?_) (fun cdv A outer s H vs Q E hr h => ?_)
 ·obtain ⟨a,g,w',rfl,_⟩:=h; rfl
 ·obtain ⟨a,g,w',rfl,⟨bs,ha,hG⟩,G,q⟩:=h
  have nd:=scLC.nd
  refine ⟨_,pss_cons (ps_set (i:=1) nd rfl (Or.inl rfl) (pe_lst pa_nil)) <|
   pss_cons (ps_for PassesOwn.never rfl (pi_enumT rfl rfl T.enumerate (pa_v (pv 0) pa_nil)) (pg_tup rfl (pgs_cons (pg_name (i:=2) nd rfl (Or.inr rfl)) (pgs_cons (pg_name (i:=3) nd rfl (Or.inl rfl)) pgs_nil)))
    (pss_one (ps_expr (pe_bm PySem.F.plainAttrs_list PySem.F.slot_list_extend PySem.F.type_list_extend mt_extend (pv 1) (pa_lc (pe_comp1 (defScope sLCells).names nLC ["_law_column","_law_number"] [("_law_row",2)] rfl (pi_enumT rfl rfl T.enumerate (pa_v (pv 3) pa_nil)) rfl rfl rfl (by decide +kernel)
     (fun Z => pg_tup rfl (pgs_cons (pg_name (i:=0) ndCN rfl (Or.inl rfl)) (pgs_cons (pg_name (i:=1) ndCN rfl (Or.inl rfl)) pgs_nil))) (fun Z => pts_one (pt_cmpR op_ge (pv 1) pe_int (nomark _))) (fun Z => pe_tup (pa_v (pv 2) (pa_v (pv 0) pa_nil)))) pa_nil))))) <|
   pss_one (ps_ret (pv 1)),?_⟩
  refine ⟨by show 0 ≤ sizeLine; decide,fun l hl => ?_⟩
  have s0:=same_upd (o:=.lst []) hl
  have hbs:bs.length = g.length:=Paired.length hG
  refine ⟨_,rfl,a,_,rfl,SqT.of (s0 _ _ ha),?_⟩
  refine for_enum (xs:=bs.map V.ref) (fun i σ H' => (∃ o2 o3,σ = [some (.ref a),some (.ref l),o2,o3])∧Same H H'∧∃ ps,H' l = some (.lst (ps.map V.ref))∧PlAt H' ps (gridF pos (g.take i))∧ps.length ≤ 6 * i) ⟨⟨_,_,rfl⟩,s0,[],by rw [upd_same]; rfl,.nil,Nat.zero_le _⟩ (fun i σ H' _ h => SqT.of (h.2.1 _ _ ha)) ?_ ?_
  ·rintro i r p σ H' hx ⟨⟨o2,o3,rfl⟩,hs,ps,hl',hP,hn⟩ hp
   obtain ⟨b,hbi,rfl⟩:∃ b,bs[i]? = some b∧V.ref b = r:=by
    rw [List.getElem?_map] at hx
    cases e:bs[i]? with
    | none => rw [e] at hx; cases hx
    | some b => rw [e] at hx; exact ⟨b,rfl,Option.some.inj hx⟩
   obtain ⟨xs,hgi,hb⟩:=hG.row hbi
   have hx5:xs.length ≤ 5:=by have:=G.len xs (List.mem_of_getElem? hgi); have:=G.w5; omega
   have h4:=G.h4
   have hi4:i < 4:=Nat.lt_of_lt_of_le (List.getElem?_eq_some_iff.mp hgi).1 h4
   have s1:Same H' (upd H' p (.tup [.int i,.ref b])):=same_upd hp
   refine ⟨p,_,rfl,SqT.of upd_same,rfl,_,_,rfl,_,_,rfl,rfl,?_⟩
   refine ⟨_,rfl,.inl ⟨rfl,_,SqL.of (s1 _ _ hl')⟩,_,rfl,b,xs.map V.int,rfl,SqT.of (s1 _ _ (hs _ _ hb)),fun Z l2 hl2 => ?_⟩
   have sA:=hs.trans s1
   refine for_enum (xs:=xs.map V.int) (fun j σ H2 => (∃ y1 y2,σ = [y1,y2,some (.int i)])∧Same (upd H' p (.tup [.int i,.ref b])) H2∧∃ zs,H2 l2 = some (.lst (zs.map V.ref))∧PlAt H2 zs (rowF pos i (xs.take j))∧zs.length ≤ j) ⟨⟨_,_,rfl⟩,same_upd hl2,[],by rw [upd_same]; rfl,.nil,Nat.zero_le _⟩ (fun j σ H2 _ h => SqT.of (h.2.1 _ _ (sA _ _ hb))) ?_ ?_
   ·rintro j x p2 σ H2 hxj ⟨⟨y1,y2,rfl⟩,hs2,zs,hl2',hP2,hn2⟩ hp2
    obtain ⟨z,hzj,rfl⟩:∃ z,xs[j]? = some z∧V.int z = x:=by
     rw [List.getElem?_map] at hxj
     cases e:xs[j]? with
     | none => rw [e] at hxj; cases hxj
     | some z => rw [e] at hxj; exact ⟨z,rfl,Option.some.inj hxj⟩
    have hj:j < 5:=Nat.lt_of_lt_of_le (List.getElem?_eq_some_iff.mp hzj).1 hx5
    have s2:Same H2 (upd H2 p2 (.tup [.int j,.int z])):=same_upd hp2
    refine ⟨p2,_,rfl,SqT.of upd_same,rfl,_,_,rfl,_,_,rfl,rfl,?_⟩
    refine ⟨_,rfl,_,_,rfl,rfl,_,rfl,iteB (fun e => ?_) fun e => ?_⟩
    ·refine ⟨_,rfl,_,rfl,(by show 2 ≤ sizeLine; decide),fun q3 hq3 => ?_⟩
     have s3:=same_upd (o:=.tup [.int i,.int j]) hq3
     have hlq:l2 ≠ q3:=ne_of_none (s2 _ _ hl2') hq3
     refine ⟨_,s3 _ _ (s2 _ _ hl2'),small1000 (by rw [List.length_map]; omega),⟨_,_,rfl⟩,fun b' u e' => ?_,zs ++ [q3],?_,?_,?_⟩
     ·rw [upd_ne (ne_of_none e' hl2)]; exact s3 _ _ (s2 _ _ (hs2 _ _ e'))
     ·rw [upd_same,List.map_append]; rfl
     ·have hne:∀ b' u,(upd (upd H2 p2 (.tup [.int j,.int z])) q3 (.tup [.int i,.int j])) b' = some (.tup u)→(upd (upd (upd H2 p2 (.tup [.int j,.int z])) q3 (.tup [.int i,.int j])) l2 (.lst (zs.map V.ref ++ [.ref q3]))) b' = some (.tup u):=fun b' u e' => by
       rw [upd_ne (fun z' => ?_)]; exact e'
       rw [z',upd_ne hlq,s2 _ _ hl2'] at e'; cases e'
      rw [Grd.rowF_succ pos i xs j _ hzj,if_pos (show pos z = true from e)]
      exact PlAt.snoc (Paired.mapP ((hP2.same s2).same s3) fun _ _ e' => hne _ _ e') (hne _ _ upd_same)
     ·rw [List.length_append]; show zs.length + 1 ≤ _; omega
    ·refine ⟨⟨_,_,rfl⟩,hs2.trans s2,zs,s2 _ _ hl2',?_,by omega⟩
     rw [Grd.rowF_succ pos i xs j _ hzj,if_neg (by rw [show pos z = false from e]; decide),List.append_nil]
     exact hP2.same s2
   ·rintro σ H2 ⟨⟨y1,y2,rfl⟩,hs2,zs,hl2',hP2,hn2⟩
    rw [List.length_map] at hP2 hn2
    rw [List.take_of_length_le (Nat.le_refl _)] at hP2
    have hlH2:=hs2 _ _ (s1 _ _ hl')
    have hll:l2 ≠ l:=fun z => by rw [z,s1 _ _ hl'] at hl2; cases hl2
    refine ⟨l,l2,_,_,rfl,rfl,hlH2,hl2',by rw [List.length_map,List.length_map,sizeLine_eq]; omega,?_⟩
    have keepT:∀ b' u,H2 b' = some (.tup u)→(upd H2 l (.lst (ps.map V.ref ++ zs.map V.ref))) b' = some (.tup u):=fun b' u e' => by
     rw [upd_ne (fun z' => ?_)]; exact e'
     rw [z',hlH2] at e'; cases e'
    refine ⟨⟨_,_,rfl⟩,fun b' u e' => ?_,ps ++ zs,by rw [upd_same,List.map_append],?_,by rw [List.length_append]; omega⟩
    ·rw [upd_ne (ne_of_none e' hl)]; exact hs2 _ _ (s1 _ _ (hs _ _ e'))
    ·rw [Grd.gridF_succ pos g i _ hgi]
     have app:∀ {as bs:List Addr} {cs ds:List (Int × Int)},PlAt (upd H2 l (.lst (ps.map V.ref ++ zs.map V.ref))) as cs→PlAt (upd H2 l (.lst (ps.map V.ref ++ zs.map V.ref))) bs ds→PlAt (upd H2 l (.lst (ps.map V.ref ++ zs.map V.ref))) (as ++ bs) (cs ++ ds):=by
      intro as bs cs ds h1 h2
      induction h1 with
      | nil => exact h2
      | cons r t ih => exact .cons r ih
     exact app (Paired.mapP ((hP.same s1).same hs2) fun _ _ e' => keepT _ _ e') (Paired.mapP hP2 fun _ _ e' => keepT _ _ e')
  ·rintro σ H' ⟨⟨o2,o3,rfl⟩,hs,ps,hl',hP,_⟩
   rw [List.length_map,hbs,List.take_of_length_le (Nat.le_refl _)] at hP
   exact ⟨_,rfl,q H' l ps hl hs hl' hP⟩
end
end M43
namespace PySem
section
variable {prog:Program} {w:World} {A:Around} {E:Value→Shared→Prop} {s:Shared}
theorem zipD_end2 {z TI TO i1 i2:Addr} {f1 f2:List Addr} {n1 n2:Nat} {P1 P2:Nat→Value→Prop} {S1 S2:Nat→Heap→Prop} {a b:Value} {Q:Fin→Shared→Prop} (D1:Draws prog w A i1 f1 n1 P1 S1) (D2:Draws prog w A i2 f2 n2 P2 S2) (D:ZipFar z TI TO i1 i2 f1 f2)
  (hz:IsZip s.heap z TI TO .none) (hTI:IsPair s.heap TI (.ref i1) (.ref i2)) (hTO:IsPair s.heap TO a b) (t1:S1 n2 s.heap) (t2:S2 n2 s.heap) (hk1:n2 < n1)
  (hE:∀ h' e tk,(∀ c o,c ≠ z→c ≠ TO→c ≠ i1→c ≠ i2→s.heap.get? c = some o→h'.get? c = some o)→(∃ o,h'.get? e = some o∧o.cls = .type "StopIteration")→E (.ref e) { s with heap:=h',toks:=tk }) :
  wpAny (model prog w) A (Builtin.«zip.__next__» ⟨[.ref z],[]⟩) Q E s:=by
 show wpAny _ _ (field (.ref z) 2 >>= _) _ _ _; refine wpAny_bind (wpAny_field hz rfl (x:=.bool false) rfl ?_); show wpAny _ _ (field (.ref z) 3 >>= _) _ _ _
 refine wpAny_bind (wpAny_field hz rfl (x:=.ref TI) rfl (wpAny_bind (wpAny_seqItems hTI rfl ?_)))
 show wpAny _ _ (Builtin.SmallTypes.ownedTupleIsFree (.ref z) >>= _) _ _ _; refine wpAny_bind ?_; unfold Builtin.SmallTypes.ownedTupleIsFree
 refine wpAny_bind (wpAny_field hz rfl (x:=.none) rfl (wpAny_pure ?_)); simp only [if_true]
 refine wpAny_bind (wpAny_rule (wpAny_bind (wpAny_field hz rfl (x:=.ref TO) rfl (wpAny_bind (wpAny_setField_rec hz (by simp) fun h₁ hz₁ hs₁ => ?_)))))
 replace hz₁:IsZip h₁ z TI TO .ellipsis:=hz₁
 refine wpAny_bind ?_; simp only [List.zipIdx_cons,List.zipIdx_nil,List.forIn_cons,List.forIn_nil]
 refine wpAny_bind (wpAny_bind (wpAny_onRaise ?_)); show wpAny _ _ (Builtin.SmallTypes.nextOf (.ref i1) >>= _) _ _ _
 have u1:S1 n2 h₁:=D1.frame n2 _ _ t1 fun c hc o e => hs₁.extBut _ _ (fun q => D.z1 (q ▸ hc)) e
 refine wpAny_bind (D1.item n2 _ _ _ hk1 u1 fun x h₂ tk₂ hx v1 hs₂ => wpAny_pure ?_)
 have hTO₂:IsPair h₂ TO a b:=hs₂.extBut _ _ D.O1 (hs₁.extBut _ _ D.Oz hTO)
 refine wpAny_bind (wpAny_seqItems hTO₂ rfl (wpAny_bind (wpAny_updateSeq_pair hTO₂ fun h₃ hTO₃ hs₃ => ?_)))
 refine wpAny_bind (wpAny_letGo (wpAny_pure ?_)); refine wpAny_bind (wpAny_bind (wpAny_onRaise ?_)); show wpAny _ _ (Builtin.SmallTypes.nextOf (.ref i2) >>= _) _ _ _
 have u2:S2 n2 h₃:=D2.frame n2 _ _ t2 fun c hc o e => hs₃.extBut _ _ (fun q => D.o2 (q ▸ hc)) (hs₂.extBut _ _ (fun q => D.c1 (q ▸ hc)) (hs₁.extBut _ _ (fun q => D.z2 (q ▸ hc)) e))
 refine wpAny_bind (D2.done _ _ _ u2 fun h₄ e hs₄ he => ?_)
 obtain ⟨oe,hoe,hce⟩:=he
 have hz₄:IsZip h₄ z TI TO .ellipsis:=hs₄ _ _ D.jz.symm (hs₃.extBut _ _ D.Oz.symm (hs₂.extBut _ _ D.iz.symm hz₁))
 have hez:e ≠ z:=fun x => by subst x; rw [hz₄] at hoe; cases hoe; simp at hce
 refine wpAny_setField_rec hz₄ (by simp) fun h₅ _ hs₅ => hE h₅ e _ (fun c o c1 c2 c3 c4 x => hs₅.extBut _ _ c1 (hs₄ _ _ c4 (hs₃.extBut _ _ c2 (hs₂.extBut _ _ c3 (hs₁.extBut _ _ c1 x))))) ⟨oe,hs₅.extBut _ _ hez hoe,hce⟩
theorem nextZ_end2 {z TI TO i1 i2:Addr} {f1 f2:List Addr} {n1 n2:Nat} {P1 P2:Nat→Value→Prop} {S1 S2:Nat→Heap→Prop} {a b:Value} {Q:Option Value→Shared→Prop} (D1:Draws prog w A.in1 i1 f1 n1 P1 S1) (D2:Draws prog w A.in1 i2 f2 n2 P2 S2) (D:ZipFar z TI TO i1 i2 f1 f2)
  (hz:IsZip s.heap z TI TO .none) (hTI:IsPair s.heap TI (.ref i1) (.ref i2)) (hTO:IsPair s.heap TO a b) (t1:S1 n2 s.heap) (t2:S2 n2 s.heap) (hk1:n2 < n1)
  (hQ:∀ h' tk,(∀ c o,c ≠ z→c ≠ TO→c ≠ i1→c ≠ i2→s.heap.get? c = some o→h'.get? c = some o)→Q none { s with heap:=h',toks:=tk }):wpAny (model prog w) A (pyNext (.ref z)) Q E s:=by
 have hT:s.TypeIs (.ref z) "zip":=⟨_,hz,rfl⟩
 unfold pyNext
 refine wpAny_bind (wpAny_attempt (wpAny_callSpecial?_slot (name:=Str.ofString "__next__") hT F.slot_zip_next (wpAny_call_entry F.slot_zip_next hT F.entry_zip_next (zipD_end2 D1 D2 D hz hTI hTO t1 t2 hk1 fun h' e tk hk he => ?_) (F.args_zip_next_1 _))))
 obtain ⟨o,ho,hc⟩:=he
 exact wpAny_bind (wpAny_isInstance (T:="StopIteration") (b:=true) ⟨o,ho,hc⟩ isSubtype_stop (wpAny_pure (hQ _ _ hk)))
end
end PySem
namespace L2
open PySem PySem.Spec PyProof.Rows
noncomputable def Itz2 (S1 S2:Hp→List V→Prop):It:=⟨(Itz S1 S2).go,(Itz S1 S2).yld,fun i H => ∃ xs ys,S1 H xs∧S2 H ys∧ys.length = i∧i < xs.length⟩
theorem turn_zip2 {P:Program} {w:World} {K:PySem.W.Frag} {es:List Expr} {x1} {pos:Pos} {k:SeqK} (ok:k.Ok) (z TI TO i1 i2 a b:Addr) (D:ZipFar z TI TO i1 i2 [i1,a] [i2,b]) (ha:a ≠ i1) (hb:b ≠ i2) :
  Turn P w K (.Tuple es x1 pos) (Itz2 (fun H xs => k.Sq K H a xs) fun H ys => k.Sq K H b ys) [z,TI,TO,i1,i2] z (fun i h => IsZip h z TI TO .none∧IsPair h TI (.ref i1) (.ref i2)∧(∃ u v,IsPair h TO u v)∧k.iit h i1 a i∧k.iit h i2 b i) where
 mem:=by simp
 obj:=(turn_zip (P:=P) (w:=w) (K:=K) (es:=es) (x1:=x1) (pos:=pos) ok z TI TO i1 i2 a b D ha hb).obj
 keep:=(turn_zip (P:=P) (w:=w) (K:=K) (es:=es) (x1:=x1) (pos:=pos) ok z TI TO i1 i2 a b D ha hb).keep
 item:=(turn_zip (P:=P) (w:=w) (K:=K) (es:=es) (x1:=x1) (pos:=pos) ok z TI TO i1 i2 a b D ha hb).item
 done:=by
  intro X hP hw hK hc i pins s σ H E I hf st hg
  subst hP hw hK
  obtain ⟨hz,hTI,⟨u,v,hTO⟩,h1,h2⟩:=st
  obtain ⟨xs,ys,q1,q2,hy,hx⟩:=hg
  obtain ⟨its,rv,p1⟩:=ok.get I q1
  obtain ⟨jts,rw',p2⟩:=ok.get I q2
  have hl:=rv.length
  have hl2:=rw'.length
  have hi2:jts.toArray.size = i:=by rw [List.size_toArray,← hl2,hy]
  have hi1:i < its.toArray.size:=by rw [List.size_toArray,← hl]; exact hx
  have hh:X.A.in1.handled = none:=by simp [I.ok.hd hc]
  refine nextZ_end2 (ok.dr hh i1 a ha its.toArray) (ok.dr hh i2 b hb jts.toArray) D hz hTI hTO (by rw [hi2]; exact ⟨h1,p1⟩) (by rw [hi2]; exact ⟨h2,p2⟩) (by rw [hi2]; exact hi1) fun h' tk hk => ⟨rfl,?_⟩
  exact I.turnedL (fp:=[z,TI,TO,i1,i2]) (t':=tk) (fun c o hc' q => hk c o (fun e => hc' (by simp [e])) (fun e => hc' (by simp [e])) (fun e => hc' (by simp [e])) (fun e => hc' (by simp [e])) q) hf
 self:=(turn_zip (P:=P) (w:=w) (K:=K) (es:=es) (x1:=x1) (pos:=pos) ok z TI TO i1 i2 a b D ha hb).self
noncomputable def iZip2 (k:SeqK) (K:PySem.W.Frag) (ta:TA):TI:=fun σ H R => ta σ H fun vs H1 => ∃ a b xs ys,vs = [.ref a,.ref b]∧k.Sq K H1 a xs∧k.Sq K H1 b ys∧R (Itz2 (fun H xs => k.Sq K H a xs) fun H ys => k.Sq K H b ys) H1
section
variable {X:Cx}
theorem pi_zip2 {a b:Expr} {ta:TA} {p pos:Pos} {es:List Expr} {x1} {tpos:Pos} {k:SeqK} (ok:k.Ok) (hg:Gl X "zip") (hm:X.mg "zip" = none) (ha:PA X [a,b] ta) (hs:starEach [a,b] X.env = [(false,eval a X.env),(false,eval b X.env)]:=by rfl) (hs2:starEach [b] X.env = [(false,eval b X.env)]:=by rfl) :
  PI X (.Tuple es x1 tpos) (.Call (.Name "zip" p) [a,b] [] pos) (iZip2 k X.K ta):=by
 intro pins s σ H R I h
 refine Call_ (ld_blt I hg hm boot_zip (PyProof.Rows.callWith_type1 (thn (ha pos pins s σ H _ I h) fun us s1 ⟨vs,H1,I1,r1,q1⟩ => ?_) (by rw [hs,hs2]) (by rw [hs2]; rfl)))
 obtain ⟨a',b',xs,ys,e,q1,q2,q⟩:=q1
 subst e
 obtain ⟨u,v,rfl,rx,ry⟩:=vals2 r1
 cases rx
 cases ry
 obtain ⟨its,rv,p1⟩:=ok.get I1 q1
 obtain ⟨jts,rw',p2⟩:=ok.get I1 q2
 have l1:=ok.lt p1
 have l2:=ok.lt p2
 refine ok.zip p1 p2 fun h' a1 a2 a3 a4 a5 a7 => ?_
 refine wpAny_pyIter_zip (s:={ s1 with heap:=h' }) a1 ?_
 have I2:Inv X pins σ H1 { s1 with heap:=h' }:=I1.kept (t':=s1.toks) a7
 have far:=zipFar_new s1.heap.objs.size a' b' l1 l2
 refine ⟨s1.heap.objs.size + 4,[s1.heap.objs.size + 4,s1.heap.objs.size + 2,s1.heap.objs.size + 3,s1.heap.objs.size,s1.heap.objs.size + 1],_,_,H1,rfl,I2,turn_zip2 ok _ _ _ _ _ a' b' far (Nat.ne_of_lt l1) (Nat.ne_of_lt (Nat.lt_succ_of_lt l2)),⟨a1,a2,⟨_,_,a3⟩,a4,a5⟩,fun c hc' => ?_,q⟩
 have hge:s1.heap.objs.size ≤ c:=by
  simp only [List.mem_cons,List.not_mem_nil,or_false] at hc'
  rcases hc' with rfl | rfl | rfl | rfl | rfl
  ·exact Nat.le_add_right _ 4
  ·exact Nat.le_add_right _ 2
  ·exact Nat.le_add_right _ 3
  ·exact Nat.le_refl _
  ·exact Nat.le_succ _
 exact I1.fpOk hge (I1.hok.fresh hge)
theorem for_zip2 {S1 S2:Hp→List V→Prop} {xs ys:List V} {g:TG} {tb:TS} {D:Ends} {σ:St} {H:Hp} (hlen:ys.length < xs.length) (Pv:Nat→St→Hp→Prop) (h0:Pv 0 σ H) (hl:∀ i σ H,Pv i σ H→S1 H xs∧S2 H ys)
  (hs:∀ i x y p σ H,xs[i]? = some x→ys[i]? = some y→Pv i σ H→H p = none→g (.ref p) σ (upd H p (.tup [x,y])) fun σ2 H2 => tb { D with nx:=Pv (i + 1),ct:=Pv (i + 1),bk:=D.nx } σ2 H2) (hd:∀ σ H,Pv ys.length σ H→D.nx σ H) :
  tForJ (Itz2 S1 S2) g tb D σ H:=by
 refine ⟨fun i m σ H => m = ys.length - i∧i ≤ ys.length∧Pv i σ H,⟨ys.length,by simp,Nat.zero_le _,h0⟩,?_⟩
 rintro i m σ H ⟨rfl,hi,p⟩
 obtain ⟨q1,q2⟩:=hl i σ H p
 by_cases hlt2:i < ys.length
 ·have hlt:i < xs.length:=by omega
  refine .inr ⟨⟨xs,ys,xs[i],ys[i],q1,q2,by simp [hlt],by simp [hlt2]⟩,Pv (i + 1),fun σ' H' p' => ⟨ys.length - (i + 1),by omega,rfl,hlt2,p'⟩,fun x H' y => ?_⟩
  obtain ⟨pp,a,b,e1,e2,e3,e4,e5⟩:=y
  subst e1 e3
  exact hs i a b pp σ H (e4 xs q1) (e5 ys q2) p e2
 ·have e:i = ys.length:=by omega
  subst e
  exact .inl ⟨⟨xs,ys,q1,q2,rfl,hlen⟩,hd σ H p⟩
end
end L2
namespace Srt
open PySem PySem.W PyProof.Rows
section
variable {cmp:Nat→Nat→(Bool→Shared→Prop)→Shared→Prop} {n:Nat} {r:Nat→Int} {s:Shared}
noncomputable def Asks (cmp:Nat→Nat→(Bool→Shared→Prop)→Shared→Prop) (n:Nat) (r:Nat→Int) (s:Shared):Prop:=∀ i j (C:Bool→Shared→Prop),i < n→j < n→C (decide (r i < r j)) s→cmp i j C s
noncomputable def at' (p:Array Nat) (k:Nat):Nat:=p.getD k 0
noncomputable def Pm (n:Nat) (p:Array Nat):Prop:=p.Perm (List.range n).toArray
theorem Pm.size {p:Array Nat} (h:Pm n p):p.size = n:=by rw [Array.Perm.size_eq h]; simp
theorem Pm.lt {p:Array Nat} (h:Pm n p) (k:Nat) (hn:0 < n):at' p k < n:=by
 unfold at'
 by_cases hk:k < p.size
 ·have e:p.getD k 0 = p[k]:=by simp [Array.getD,hk]
  rw [e]
  have h1:p[k] ∈ p.toList:=by simp
  have h2:=(Array.perm_iff_toList_perm.mp h).mem_iff.mp h1
  simpa using h2
 ·have e:p.getD k 0 = 0:=by simp [Array.getD,hk]
  rw [e]; exact hn
noncomputable def R (r:Nat→Int) (p:Array Nat) (k:Nat):Int:=r (at' p k)
noncomputable def Up (r:Nat→Int) (p:Array Nat) (k:Nat):Prop:=∀ i j,i ≤ j→j < k→R r p i ≤ R r p j
noncomputable def Dn (r:Nat→Int) (p:Array Nat) (k:Nat):Prop:=∀ i j,i ≤ j→j < k→R r p j ≤ R r p i
theorem up_succ {p:Array Nat} {k:Nat} (h:Up r p k) (h1:R r p (k - 1) ≤ R r p k):Up r p (k + 1):=by
 intro i j hij hj
 by_cases e:j < k
 ·exact h i j hij e
 ·have:j = k:=by omega
  subst this
  by_cases e2:i = j
  ·subst e2; exact Int.le_refl _
  ·exact Int.le_trans (h i (j - 1) (by omega) (by omega)) h1
theorem dn_succ {p:Array Nat} {k:Nat} (h:Dn r p k) (h1:R r p k ≤ R r p (k - 1)):Dn r p (k + 1):=by
 intro i j hij hj
 by_cases e:j < k
 ·exact h i j hij e
 ·have:j = k:=by omega
  subst this
  by_cases e2:i = j
  ·subst e2; exact Int.le_refl _
  ·exact Int.le_trans h1 (h i (j - 1) (by omega) (by omega))
theorem at_rev {p:Array Nat} {i j:Nat} (hj:j ≤ p.size) (k:Nat):at' (kas_rev p i j) k = if i ≤ k∧k < j then at' p (i + j - 1 - k) else at' p k:=by
 have e:=getElem?_mirror_all (xs:=p) (i:=i) hj k
 have g:∀ (xs:Array Nat) (k:Nat),at' xs k = (xs[k]?).getD 0:=fun xs k => by unfold at'; simp [Array.getD]; split <;> simp [*]
 rw [g,g,g]
 show (mirror p i j ((j - i) / 2))[k]?.getD 0 = _
 rw [e]
 split <;> rfl
theorem R_rev {p:Array Nat} {i j:Nat} (hj:j ≤ p.size) (k:Nat):R r (kas_rev p i j) k = if i ≤ k∧k < j then R r p (i + j - 1 - k) else R r p k:=by
 unfold R; rw [at_rev hj]; split <;> rfl
theorem R_rev_eq {p:Array Nat} {i j:Nat} (hj:j ≤ p.size) (h:∀ k,i ≤ k→k < j→R r p k = R r p (j - 1)) (k:Nat):R r (kas_rev p i j) k = R r p k:=by
 rw [R_rev hj]
 split
 ·rw [h _ (by omega) (by omega),h k (by omega) (by omega)]
 ·rfl
theorem Pm.rev {p:Array Nat} (h:Pm n p) (i j:Nat):Pm n (kas_rev p i j):=Array.Perm.trans (mirror_perm _ _ _ _) h
theorem Pm.bub {p:Array Nat} (h:Pm n p) (k d:Nat):Pm n (bubble p k d):=Array.Perm.trans (bubble_perm _ _ _) h
theorem R_bub {p:Array Nat} {src d:Nat} (hs:src < p.size) (hd:d ≤ src) (k:Nat):R r (bubble p src d) k = if k = src - d then R r p src else if src - d < k∧k ≤ src then R r p (k - 1) else R r p k:=by
 have e:=getElem?_bubble (xs:=p) hs d hd k
 have g:∀ (xs:Array Nat) (k:Nat),at' xs k = (xs[k]?).getD 0:=fun xs k => by unfold at'; simp [Array.getD]; split <;> simp [*]
 unfold R
 rw [g,e]
 split
 ·rw [g]
 ·split <;> rw [g]
theorem asc_ok (ha:Asks cmp n r s) (hn:0 < n) {p:Array Nat} (hp:Pm n p):∀ (f k:Nat) (Q:Nat→Shared→Prop),1 ≤ k→Up r p k→(∀ m,k ≤ m→m ≤ k + f→Up r p m→(m = k + f ∨ R r p m < R r p (m - 1))→Q m s)→(kas_asc p f k).kasWp cmp Q s
 | 0,k,Q,h1,hu,h => h k (Nat.le_refl _) (Nat.le_refl _) hu (.inl rfl)
 | f + 1,k,Q,h1,hu,h => by
  show cmp (at' p k) (at' p (k - 1)) (fun b s' => (if b = true then KasT.ret k else kas_asc p f (k + 1)).kasWp cmp Q s') s
  refine ha _ _ _ (hp.lt _ hn) (hp.lt _ hn) ?_
  by_cases c:r (at' p k) < r (at' p (k - 1))
  ·rw [decide_eq_true c]
   exact h k (Nat.le_refl _) (by omega) hu (.inr c)
  ·rw [decide_eq_false c]
   refine asc_ok ha hn hp f (k + 1) Q (by omega) (up_succ hu (Int.not_lt.mp c)) fun m a b u e => h m (by omega) (by omega) u ?_
   rcases e with e | e
   ·left; omega
   ·exact .inr e
theorem desc_ok (ha:Asks cmp n r s) (hn:0 < n):∀ (f k q:Nat) (p:Array Nat) (Q:Array Nat × Nat × Nat→Shared→Prop),Pm n p→1 ≤ k→k + f ≤ n→Dn r p k→q + 1 ≤ k→(∀ i,k - (q + 1) ≤ i→i < k→R r p i = R r p (k - 1)) →
  (∀ p' m q',Pm n p'→k ≤ m→m ≤ k + f→Dn r p' m→q' + 1 ≤ m→(∀ i,m - (q' + 1) ≤ i→i < m→R r p' i = R r p' (m - 1))→Q (p',m,q') s)→(kas_desc f p k q).kasWp cmp Q s
 | 0,k,q,p,Q,hp,h1,hk,hd,hq,he,h => h p k q hp (Nat.le_refl _) (Nat.le_refl _) hd hq he
 | f + 1,k,q,p,Q,hp,h1,hk,hd,hq,he,h => by
  have hsz:k ≤ p.size:=by rw [hp.size]; omega
  show cmp (at' p k) (at' p (k - 1)) (fun c s' => (if c = true then (if q > 0 then kas_desc f (kas_rev p (k - (q + 1)) k) (k + 1) 0 else kas_desc f p (k + 1) 0) else KasT.ask (at' p (k - 1)) (at' p k) fun d => if d = true then KasT.ret (p,k,q) else kas_desc f p (k + 1) (q + 1)).kasWp cmp Q s') s
  refine ha _ _ _ (hp.lt _ hn) (hp.lt _ hn) ?_
  by_cases c:r (at' p k) < r (at' p (k - 1))
  ·rw [decide_eq_true c]
   have go:∀ p',Pm n p'→(∀ i,R r p' i = R r p i)→(kas_desc f p' (k + 1) 0).kasWp cmp Q s:=fun p' hp' e => by
    refine desc_ok ha hn f (k + 1) 0 p' Q hp' (by omega) (by omega) ?_ (by omega) ?_ fun p2 m q' a1 a2 a3 a4 a5 a6 => h p2 m q' a1 (by omega) (by omega) a4 a5 a6
    ·intro i j hij hj
     rw [e,e]
     exact dn_succ hd (Int.le_of_lt c) i j hij hj
    ·intro i hi1 hi2
     have:i = k:=by omega
     subst this; rfl
   show (if q > 0 then kas_desc f (kas_rev p (k - (q + 1)) k) (k + 1) 0 else kas_desc f p (k + 1) 0).kasWp cmp Q s
   by_cases hq0:q > 0
   ·rw [if_pos hq0]; exact go _ (hp.rev _ _) (R_rev_eq hsz he)
   ·rw [if_neg hq0]; exact go p hp fun _ => rfl
  ·rw [decide_eq_false c]
   show cmp (at' p (k - 1)) (at' p k) (fun d s' => (if d = true then KasT.ret (p,k,q) else kas_desc f p (k + 1) (q + 1)).kasWp cmp Q s') s
   refine ha _ _ _ (hp.lt _ hn) (hp.lt _ hn) ?_
   by_cases d:r (at' p (k - 1)) < r (at' p k)
   ·rw [decide_eq_true d]
    exact h p k q hp (Nat.le_refl _) (by omega) hd hq he
   ·rw [decide_eq_false d]
    have e:R r p k = R r p (k - 1):=Int.le_antisymm (Int.not_lt.mp d) (Int.not_lt.mp c)
    show (kas_desc f p (k + 1) (q + 1)).kasWp cmp Q s
    refine desc_ok ha hn f (k + 1) (q + 1) p Q hp (by omega) (by omega) (dn_succ hd (Int.le_of_eq e)) (by omega) ?_ fun p2 m q' a1 a2 a3 a4 a5 a6 => h p2 m q' a1 (by omega) (by omega) a4 a5 a6
    intro i hi1 hi2
    rw [show k + 1 - 1 = k by omega,e]
    by_cases ik:i = k
    ·rw [ik,e]
    ·exact he i (by omega) (by omega)
theorem tail_ok (ha:Asks cmp n r s) (hn:0 < n) {p:Array Nat} (hp:Pm n p) {k nrem:Nat} {Q:Nat × Array Nat→Shared→Prop} (h1:1 ≤ k) (hk:k ≤ nrem) (hz:nrem ≤ n) (hd:Dn r p k)
  (h:∀ m p',Pm n p'→1 ≤ m→m ≤ nrem→Up r p' m→Q (m,p') s):(kas_tail3 k nrem p).kasWp cmp Q s:=by
 unfold kas_tail3
 rw [KasT.kasWp_bind]
 have hsz:k ≤ p.size:=by rw [hp.size]; omega
 refine asc_ok ha hn (hp.rev 0 k) _ _ _ h1 ?_ fun m a b u _ => h m _ (hp.rev 0 k) (by omega) (by omega) u
 intro i j hij hj
 rw [R_rev hsz,R_rev hsz,if_pos (by omega),if_pos (by omega)]
 exact hd _ _ (by omega) (by omega)
theorem part_ok (ha:Asks cmp n r s) (hn:0 < n) {p:Array Nat} (hp:Pm n p) {k nrem:Nat} {Q:Nat × Array Nat→Shared→Prop} (hk:k + 1 ≤ nrem) (hz:nrem ≤ n) (hd:Dn r p (k + 1))
  (h:∀ m p',Pm n p'→1 ≤ m→m ≤ nrem→Up r p' m→Q (m,p') s):(kas_descPart k nrem p).kasWp cmp Q s:=by
 unfold kas_descPart
 rw [KasT.kasWp_bind]
 refine desc_ok ha hn _ (k + 1) 0 p _ hp (by omega) (by omega) hd (by omega) (fun i a b => show R r p i = R r p (k + 1 - 1) by rw [show i = k + 1 - 1 by omega]) fun p' m q hp' a1 a2 hd' hq he => ?_
 show (if q > 0 then kas_tail3 m nrem (kas_rev p' (m - (q + 1)) m) else kas_tail3 m nrem p').kasWp cmp Q s
 have hsz:m ≤ p'.size:=by rw [hp'.size]; omega
 by_cases hq0:q > 0
 ·rw [if_pos hq0]
  refine tail_ok ha hn (hp'.rev _ _) (by omega) (by omega) hz ?_ h
  intro i j hij hj
  rw [R_rev_eq hsz he,R_rev_eq hsz he]
  exact hd' i j hij hj
 ·rw [if_neg hq0]
  exact tail_ok ha hn hp' (by omega) (by omega) hz hd' h
theorem count_ok (ha:Asks cmp n r s) (hn:0 < n) {p:Array Nat} (hp:Pm n p) {Q:Nat × Array Nat→Shared→Prop} 
  (h:∀ m p',Pm n p'→1 ≤ m→m ≤ n→Up r p' m→Q (m,p') s):(kas_count n p).kasWp cmp Q s:=by
 unfold kas_count
 rw [KasT.kasWp_bind]
 refine asc_ok ha hn hp _ 1 _ (Nat.le_refl _) (fun i j a b => show R r p i ≤ R r p j by rw [show i = j by omega]; exact Int.le_refl _) fun m a b u e => ?_
 by_cases e1:m = n
 ·rw [if_pos (by simpa using e1)]
  exact h m p hp a (by omega) u
 ·rw [if_neg (by simpa using e1)]
  have hlt:R r p m < R r p (m - 1):=e.resolve_left (by omega)
  have dn1:∀ p',Pm n p'→Dn r p' m→(∀ i,R r p' i = R r p i)→Dn r p' (m + 1):=fun p' _ d z => dn_succ d (by rw [z,z]; exact Int.le_of_lt hlt)
  by_cases e2:m > 1
  ·rw [if_pos e2]
   show cmp (at' p 0) (at' p (m - 1)) (fun c s' => (if c = true then KasT.ret (m,p) else kas_descPart m n (kas_rev p 0 m)).kasWp cmp Q s') s
   refine ha _ _ _ (hp.lt _ hn) (hp.lt _ hn) ?_
   by_cases c:r (at' p 0) < r (at' p (m - 1))
   ·rw [decide_eq_true c]
    exact h m p hp a (by omega) u
   ·rw [decide_eq_false c]
    have hall:∀ k,0 ≤ k→k < m→R r p k = R r p (m - 1):=fun k _ hk => by
     have a1:=u 0 k (by omega) hk
     have a2:=u k (m - 1) (by omega) (by omega)
     have a3:R r p (m - 1) ≤ R r p 0:=Int.not_lt.mp c
     omega
    have hsz:m ≤ p.size:=by rw [hp.size]; omega
    refine part_ok ha hn (hp.rev 0 m) (by omega) (Nat.le_refl _) (dn1 _ (hp.rev 0 m) ?_ (R_rev_eq hsz hall)) h
    intro i j hij hj
    rw [R_rev_eq hsz hall,R_rev_eq hsz hall,hall i (by omega) (by omega),hall j (by omega) hj]
    exact Int.le_refl _
  ·rw [if_neg e2]
   have:m = 1:=by omega
   subst this
   refine part_ok ha hn hp (by omega) (Nat.le_refl _) (dn1 p hp (fun i j hij hj => ?_) fun _ => rfl) h
   have:i = j:=by omega
   subst this; exact Int.le_refl _
theorem place_ok (ha:Asks cmp n r s) (hn:0 < n) {p:Array Nat} (hp:Pm n p) {k:Nat} (hu:Up r p k):∀ (f lo hi:Nat) (Q:Nat→Shared→Prop),lo ≤ hi→hi ≤ k→hi - lo ≤ f→(∀ i,i < lo→R r p i ≤ R r p k)→(∀ i,hi ≤ i→i < k→R r p k < R r p i) →
  (∀ l,l ≤ k→(∀ i,i < l→R r p i ≤ R r p k)→(∀ i,l ≤ i→i < k→R r p k < R r p i)→Q l s)→(kas_place p k f lo hi).kasWp cmp Q s
 | 0,lo,hi,Q,h1,h2,h3,hl,hh,h => h lo (by omega) hl fun i a b => hh i (by omega) b
 | f + 1,lo,hi,Q,h1,h2,h3,hl,hh,h => by
  unfold kas_place
  by_cases e:lo ≥ hi
  ·rw [if_pos e]
   exact h lo (by omega) hl fun i a b => hh i (by omega) b
  ·rw [if_neg e]
   show cmp (at' p k) (at' p ((lo + hi) / 2)) (fun c s' => (if c = true then kas_place p k f lo ((lo + hi) / 2) else kas_place p k f ((lo + hi) / 2 + 1) hi).kasWp cmp Q s') s
   refine ha _ _ _ (hp.lt _ hn) (hp.lt _ hn) ?_
   by_cases c:r (at' p k) < r (at' p ((lo + hi) / 2))
   ·rw [decide_eq_true c]
    refine place_ok ha hn hp hu f lo ((lo + hi) / 2) Q (by omega) (by omega) (by omega) hl (fun i a b => ?_) h
    exact Int.lt_of_lt_of_le c (hu ((lo + hi) / 2) i a b)
   ·rw [decide_eq_false c]
    refine place_ok ha hn hp hu f ((lo + hi) / 2 + 1) hi Q (by omega) (by omega) (by omega) (fun i a => ?_) hh h
    exact Int.le_trans (hu i ((lo + hi) / 2) (by omega) (by omega)) (Int.not_lt.mp c)
theorem bin_ok (ha:Asks cmp n r s) (hn:0 < n):∀ (f k:Nat) (p:Array Nat) (Q:Array Nat→Shared→Prop),Pm n p→k + f = n→Up r p k→(∀ p',Pm n p'→Up r p' n→Q p' s)→(kas_bin f p k).kasWp cmp Q s
 | 0,k,p,Q,hp,hk,hu,h => h p hp (by rw [← hk]; exact hu)
 | f + 1,k,p,Q,hp,hk,hu,h => by
  show ((kas_place p k k 0 k).bind fun l => kas_bin f (bubble p k (k - l)) (k + 1)).kasWp cmp Q s
  rw [KasT.kasWp_bind]
  refine place_ok ha hn hp hu k 0 k _ (Nat.zero_le _) (Nat.le_refl _) (by omega) (fun i a => by omega) (fun i a b => by omega) fun l hl h1 h2 => ?_
  refine bin_ok ha hn f (k + 1) _ Q (hp.bub _ _) (by omega) ?_ h
  have hs:k < p.size:=by rw [hp.size]; omega
  intro i j hij hj
  rw [R_bub hs (by omega),R_bub hs (by omega),show k - (k - l) = l by omega]
  by_cases c1:i = l
  ·rw [if_pos c1]
   by_cases c2:j = l
   ·rw [if_pos c2]; exact Int.le_refl _
   ·rw [if_neg c2,if_pos (by omega)]
    exact Int.le_of_lt (h2 (j - 1) (by omega) (by omega))
  ·rw [if_neg c1]
   by_cases c2:j = l
   ·rw [if_pos c2,if_neg (by omega)]
    exact h1 i (by omega)
   ·rw [if_neg c2]
    by_cases c3:l < i∧i ≤ k
    ·rw [if_pos c3,if_pos (by omega)]
     exact hu _ _ (by omega) (by omega)
    ·rw [if_neg c3]
     by_cases c4:l < j∧j ≤ k
     ·rw [if_pos c4]
      exact hu _ _ (by omega) (by omega)
     ·rw [if_neg c4]
      exact hu _ _ hij (by omega)
theorem sort_ok (ha:Asks cmp n r s) (h2:2 ≤ n) {Q:Array Nat→Shared→Prop} (h:∀ p,Pm n p→Up r p n→Q p s):(kas_sort n).kasWp cmp Q s:=by
 unfold kas_sort
 rw [KasT.kasWp_bind]
 refine count_ok ha (by omega) (Array.Perm.refl _) fun m p hp h1 hm u => ?_
 show (if m < n then kas_bin (n - max m 1) p (max m 1) else KasT.ret p).kasWp cmp Q s
 by_cases e:m < n
 ·rw [if_pos e]
  have:max m 1 = m:=by omega
  rw [this]
  exact bin_ok ha (by omega) _ _ p Q hp (by omega) u h
 ·rw [if_neg e]
  have:m = n:=by omega
  subst this
  exact h p hp u
end
end Srt
namespace Srt
open PySem PySem.W PyProof.Rows
section
variable {prog:Program} {w:World} {A:Around} {E:Value→Shared→Prop} {s:Shared} {κ:SortKind} {r:Nat→Int}
noncomputable def But (a:Addr) (h h':Heap):Prop:=∀ b o,b ≠ a→h.get? b = some o→h'.get? b = some o
theorem pm_range (n:Nat):Pm n (List.toArray (List.range n)):=Array.Perm.refl _
theorem up_short {p:Array Nat} {n:Nat} (h:n < 2):Up r p n:=fun i j hij hj => by
 have:i = j:=by omega
 subst this; exact Int.le_refl _
theorem range_map (vs:List Value):(List.toArray (List.range vs.length)).toList.map (fun i => vs.getD i Value.none) = vs:=by
 refine List.ext_getElem (by simp) fun i h1 h2 => ?_
 simp [h2]
theorem sort_raw {a:Addr} {vs:List Value} {n:Nat} {P:PySem.Fin→Shared→Prop} (ho:s.heap.get? a = some (seqObj "list" vs.toArray n)) (h64:vs.length < 64)
  (hk:2 ≤ vs.length→∀ h',But a s.heap h'→(∀ Q:SortKind→Shared→Prop,Q κ { s with heap:=h' }→wpAny (model prog w) A (keyKind' vs.toArray) Q E { s with heap:=h' })∧Asks (kas_ask prog w A κ vs) vs.length r { s with heap:=h' })
  (h:∀ h' c p,Pm vs.length p→Up r p vs.length→h'.get? a = some (seqObj "list" (p.toList.map fun i => vs.getD i Value.none).toArray c)→But a s.heap h'→P (.done (.ret .none)) { s with heap:=h' }) :
  wpAny (model prog w) A (Builtin.«list.sort» ⟨[.ref a],[]⟩) P E s:=by
 have la:=Heap.lt_size ho
 obtain ⟨c1,o1⟩:∃ c1,(s.heap.update a (Obj.mapSeq fun _ => (#[]:Array Value))).get? a = some (seqObj "list" #[] c1):=⟨_,get?_update_seq ho fun _ => #[]⟩
 have b1:But a s.heap (s.heap.update a (Obj.mapSeq fun _ => (#[]:Array Value))):=fun b o hb e => by rw [Heap.get?_update_ne _ _ _ _ hb]; exact e
 generalize hg1:s.heap.update a (Obj.mapSeq fun _ => (#[]:Array Value)) = g1 at o1 b1
 have o3:((g1.push (seqObj "tuple" vs.toArray 0)).push (seqObj "list" #[] 0)).get? a = some (seqObj "list" #[] c1):=Heap.get?_push_of_some _ (Heap.get?_push_of_some _ o1)
 have b3:But a s.heap ((g1.push (seqObj "tuple" vs.toArray 0)).push (seqObj "list" #[] 0)):=fun b o hb e => Heap.get?_push_of_some _ (Heap.get?_push_of_some _ (b1 b o hb e))
 rw [list_sort_plain]
 refine wpAny_bind (listItems_at ho rfl ?_)
 refine wpAny_bind (listUpdate_at ho rfl ?_ (by rw [List.size_toArray,sizeLine_eq]; omega) (Nat.zero_le _))
 rw [hg1]
 refine wpAny_bind (seqEpoch_at o1 rfl ?_)
 refine wpAny_bind (wpAny_newTuple ?_ (by show vs.length ≤ _; rw [sizeLine_eq]; omega))
 refine wpAny_bind (wpAny_newList ?_ (Nat.zero_le _))
 refine wpAny_holding ?_
 show wpAny (model prog w) A _ P E { s with heap:=(g1.push (seqObj "tuple" vs.toArray 0)).push (seqObj "list" #[] 0) }
 generalize (g1.push (seqObj "tuple" vs.toArray 0)).push (seqObj "list" #[] 0) = g3 at o3 b3
 dsimp only
 have fin:∀ (st:SortSt) (p:Array Nat),Pm vs.length p→Up r p vs.length→(arrOf st).map (·.2) = (p.toList.map fun i => vs.getD i Value.none).toArray→failedOf st = none →
   wpAny (model prog w) A (do
    let touched:=(← seqEpoch a) != c1
    Builtin.List.listUpdate (.ref a) fun _ => (arrOf st).map (·.2)
    if let some e:=failedOf st then rule "list.sort.comparison-raised"; throw e
    if touched then rule "list.sort.modified"; raiseError "ValueError" "list modified during sort"
    ret .none) P E { s with heap:=g3 }:=fun st p hp hu hout hf => by
  rw [hout,hf]
  have hz:(p.toList.map fun i => vs.getD i Value.none).toArray.size = vs.length:=by rw [List.size_toArray,List.length_map,Array.length_toList,hp.size]
  obtain ⟨c4,o4⟩:∃ c4,(g3.update a (Obj.mapSeq fun _ => (p.toList.map fun i => vs.getD i Value.none).toArray)).get? a = some (seqObj "list" (p.toList.map fun i => vs.getD i Value.none).toArray c4):=⟨_,get?_update_seq o3 fun _ => (p.toList.map fun i => vs.getD i Value.none).toArray⟩
  refine wpAny_bind (seqEpoch_at o3 rfl ?_)
  refine wpAny_bind (listUpdate_at o3 rfl ?_ (Nat.zero_le _) (Nat.le_trans (Nat.le_of_eq hz) (by rw [sizeLine_eq]; omega)))
  simp only [bne_self_eq_false,Bool.false_eq_true,if_false]
  exact wpAny_pure (h _ c4 p hp hu o4 fun b o hb e => by rw [Heap.get?_update_ne _ _ _ _ hb]; exact b3 b o hb e)
 by_cases h2:vs.toArray.size < 2
 ·rw [if_pos h2,if_pos h2]
  refine wpAny_bind (wpAny_pure ?_)
  rw [StateT.run_pure]
  refine wpAny_bind (wpAny_pure ?_)
  refine fin _ _ (pm_range _) (up_short (by rw [List.size_toArray] at h2; exact h2)) ?_ rfl
  rw [range_map]
  show (vs.toArray.zip vs.toArray).map (·.2) = _
  apply Array.toList_inj.mp
  simp [List.map_snd_zip]
 ·rw [if_neg h2,if_neg h2]
  rw [List.size_toArray] at h2
  obtain ⟨kk,ask⟩:=hk (by omega) g3 b3
  refine wpAny_bind (kk _ ?_)
  refine wpAny_bind (wpAny_mono (kat_run (Q:=fun st' s' => s' = { s with heap:=g3 }∧∃ p,Pm vs.length p∧Up r p vs.length∧arrOf st' = p.map (kas_item (vs.toArray.zip vs.toArray))∧failedOf st' = none) (G:=fun p s' => s' = { s with heap:=g3 }∧Pm vs.length p∧Up r p vs.length)
   rfl (by omega) h64 (fun p st' s' a1 a2 a3 a4 => ⟨a4.1,p,a4.2.1,a4.2.2,a2,a3⟩) (sort_ok ask (by omega) fun p hp hu => ⟨rfl,hp,hu⟩)) ?_ fun _ _ e => e)
  rintro ⟨⟨⟩,st'⟩ s' ⟨rfl,p,hp,hu,har,hf⟩
  exact fin st' p hp hu (kat_snds rfl har) hf
theorem sorted_raw {x:Value} {vs:List Value} {Q:Value→Shared→Prop} (h64:vs.length < 64)
  (hc:∀ Q':List Value→Shared→Prop,(∀ h1 tk,(∀ b o,s.heap.get? b = some o→h1.get? b = some o)→s.heap.objs.size ≤ h1.objs.size→Q' vs { s with heap:=h1,toks:=tk })→wpAny (model prog w) A.in1 (collect x) Q' E s)
  (hr:∀ h1 tk,(∀ b o,s.heap.get? b = some o→h1.get? b = some o)→2 ≤ vs.length→(∀ Q:SortKind→Shared→Prop,Q κ { s with heap:=h1,toks:=tk }→wpAny (model prog w) A.in1.in1 (keyKind' vs.toArray) Q E { s with heap:=h1,toks:=tk })∧Asks (kas_ask prog w A.in1.in1 κ vs) vs.length r { s with heap:=h1,toks:=tk })
  (h:∀ D h' tk c p,s.heap.objs.size ≤ D→Pm vs.length p→Up r p vs.length→h'.get? D = some (seqObj "list" (p.toList.map fun i => vs.getD i Value.none).toArray c)→(∀ b o,s.heap.get? b = some o→h'.get? b = some o)→Q (.ref D) { s with heap:=h',toks:=tk }) :
  wpAny (model prog w) A (call (.builtin "sorted") [x]) Q E s:=by
 refine Calls.call_function_entry kind_sorted plain_sorted entry_sorted (args_sorted1 _) ?_
 unfold Builtin.«sorted»
 refine wpAny_bind (m:=checkCount "sorted" 1 1 _) (wpAny_pure ?_)
 refine wpAny_bind (hc _ fun h1 tk k1 z1 => ?_)
 refine wpAny_bind (wpAny_newList ?_ (by rw [sizeLine_eq]; omega))
 have oL:(h1.push (seqObj "list" vs.toArray 0)).get? h1.objs.size = some (seqObj "list" vs.toArray 0):=Heap.get?_push_size _ rfl
 have kL:∀ b o,s.heap.get? b = some o→(h1.push (seqObj "list" vs.toArray 0)).get? b = some o∧b ≠ h1.objs.size:=fun b o e => ⟨Heap.get?_push_of_some _ (k1 b o e),Nat.ne_of_lt (Nat.lt_of_lt_of_le (Heap.lt_size e) z1)⟩
 refine wpAny_bind (wpAny_holding (wpAny_call_entry slot_list_sort ⟨_,oL,rfl⟩ entry_list_sort ?_ (args_list_sort _)))
 refine sort_raw (κ:=κ) (r:=r) oL h64 (fun h2 h' b' => hr h' tk (fun b o e => b' b o (kL b o e).2 (kL b o e).1) h2) fun h' c p hp hu o' b' => ⟨_,rfl,?_⟩
 exact wpAny_pure ⟨_,rfl,h h1.objs.size h' tk c p z1 hp hu o' fun b o e => b' b o (kL b o e).2 (kL b o e).1⟩
end
end Srt
namespace Srt
theorem lex_irr:∀ xs:List Int,HT.lexLt xs xs = false
 | [] => rfl
 | x :: xs => by rw [HT.lexLt_cons,if_pos rfl]; exact lex_irr xs
theorem lex_tr:∀ {xs ys zs:List Int},HT.lexLt xs ys = true→HT.lexLt ys zs = true→HT.lexLt xs zs = true
 | [],[],_,h,_ => by cases h
 | [],_ :: _,[],_,h => by cases h
 | [],_ :: _,_ :: _,_,_ => rfl
 | _ :: _,[],_,h,_ => by cases h
 | _ :: _,_ :: _,[],_,h => by cases h
 | x :: xs,y :: ys,z :: zs,h1,h2 => by
  rw [HT.lexLt_cons] at h1 h2 ⊢
  by_cases e1:x = y
  ·subst e1
   rw [if_pos rfl] at h1
   by_cases e2:x = z
   ·subst e2
    rw [if_pos rfl] at h2 ⊢
    exact lex_tr h1 h2
   ·rw [if_neg e2] at h2 ⊢; exact h2
  ·rw [if_neg e1,decide_eq_true_eq] at h1
   by_cases e2:y = z
   ·subst e2
    rw [if_neg e1,decide_eq_true_eq]; exact h1
   ·rw [if_neg e2,decide_eq_true_eq] at h2
    rw [if_neg (by omega),decide_eq_true_eq]; omega
theorem lex_tot:∀ {xs ys:List Int},HT.lexLt xs ys = false→HT.lexLt ys xs = false→xs = ys
 | [],[],_,_ => rfl
 | [],_ :: _,h,_ => by cases h
 | _ :: _,[],_,h => by cases h
 | x :: xs,y :: ys,h1,h2 => by
  rw [HT.lexLt_cons] at h1 h2
  by_cases e:x = y
  ·subst e
   rw [if_pos rfl] at h1 h2
   rw [lex_tot h1 h2]
  ·rw [if_neg e,decide_eq_false_iff_not] at h1
   rw [if_neg (fun z => e z.symm),decide_eq_false_iff_not] at h2
   omega
noncomputable def rank (rows:List (List Int)) (x:List Int):Int:=(rows.countP fun z => HT.lexLt z x:Nat)
theorem count_le {α:Type} {p q:α→Bool}:∀ {l:List α},(∀ a ∈ l,p a = true→q a = true)→l.countP p ≤ l.countP q
 | [],_ => by simp
 | a :: l,h => by
  have ih:=count_le (p:=p) (q:=q) (l:=l) fun b hb => h b (List.mem_cons_of_mem _ hb)
  rw [List.countP_cons,List.countP_cons]
  have:=h a List.mem_cons_self
  cases hp:p a <;> cases hq:q a <;> simp_all <;> omega
theorem count_lt {α:Type} {p q:α→Bool} {x:α}:∀ {l:List α},(∀ a ∈ l,p a = true→q a = true)→x ∈ l→p x = false→q x = true→l.countP p < l.countP q
 | [],_,hx,_,_ => by cases hx
 | a :: l,h,hx,hp,hq => by
  have hl:∀ b ∈ l,p b = true→q b = true:=fun b hb => h b (List.mem_cons_of_mem _ hb)
  rw [List.countP_cons,List.countP_cons]
  rcases List.mem_cons.mp hx with e | e
  ·subst e
   have:=count_le hl
   rw [hp,hq]
   simp
   omega
  ·have ih:=count_lt hl e hp hq
   have:=h a List.mem_cons_self
   cases hp':p a <;> cases hq':q a <;> simp_all <;> omega
theorem rank_lt {rows:List (List Int)} {x y:List Int} (hx:x ∈ rows) (hy:y ∈ rows):decide (rank rows x < rank rows y) = HT.lexLt x y:=by
 unfold rank
 cases h:HT.lexLt x y with
 | true =>
  rw [decide_eq_true_eq]
  have:=count_lt (l:=rows) (p:=fun z => HT.lexLt z x) (q:=fun z => HT.lexLt z y) (fun a _ ha => lex_tr ha h) hx (lex_irr x) h
  omega
 | false =>
  rw [decide_eq_false_iff_not]
  have:rows.countP (fun z => HT.lexLt z y) ≤ rows.countP (fun z => HT.lexLt z x):=by
   refine count_le fun a _ ha => ?_
   cases h2:HT.lexLt y x with
   | true => exact lex_tr ha h2
   | false => rw [lex_tot h h2]; exact ha
  omega
end Srt
namespace L2
open PySem PySem.Spec PyProof.Rows Srt
section
variable {prog:Program} {w:World} {A:Around}
theorem lex_same {C:Bool→Shared→Prop} {s:Shared} {b:Bool}:∀ {xs ys:List Int} {us ws:List Value} (i:Nat),Vals (xs.map V.int) us→Vals (ys.map V.int) ws→C (HT.lexLt xs ys) s →
  PySem.W.KatLex prog w A b (decide (xs.length < ys.length)) C (us.zip ws) i s
 | [],[],_,_,i,.nil,.nil,h => by
  show C (decide (0 < 0)) s
  exact h
 | [],y :: ys,_,_,i,.nil,.cons _ _,h => by
  show C (decide (0 < ys.length + 1)) s
  rw [decide_eq_true (by omega)]; exact h
 | x :: xs,[],_,_,i,.cons _ _,.nil,h => by
  show C (decide (xs.length + 1 < 0)) s
  rw [decide_eq_false (by omega)]; exact h
 | x :: xs,y :: ys,_,_,i,.cons r1 t1,.cons r2 t2,h => by
  obtain ⟨t,rfl⟩:=r1
  obtain ⟨u,rfl⟩:=r2
  rw [HT.lexLt_cons] at h
  refine PySem.W.kat_cons (wpAny_eqBool_int ?_)
  by_cases e:x = y
  ·subst e
   rw [if_pos rfl] at h
   rw [show (x == x) = true by simp]
   refine PySem.W.kat_yes ?_
   have:=lex_same (b:=b) (i + 1) t1 t2 h
   rw [show decide ((x :: xs).length < (x :: ys).length) = decide (xs.length < ys.length) by simp]
   exact this
  ·rw [if_neg e] at h
   rw [show (x == y) = false by simpa using e]
   refine PySem.W.kat_no ?_
   cases b && i == 0 with
   | true => exact oneLt_int h
   | false => exact PySem.W.kat_one _ _ (PyProof.Rows.lt_int (show PySem.W.BoolBack C (Value.bool (decide (x < y))) s from h))
end
theorem refs_of:∀ {as:List Addr} {us:List Value},Vals (as.map V.ref) us→us = as.map Value.ref
 | [],_,.nil => rfl
 | a :: as,_,.cons r t => by rw [refs_of t]; cases (show _ = Value.ref a from r); rfl
theorem vals_fst:∀ zs:List (Addr × List Int),Vals (zs.map fun z => V.ref z.1) (zs.map fun z => Value.ref z.1)
 | [] => .nil
 | z :: zs => .cons rfl (vals_fst zs)
section
variable {X:Cx}
noncomputable def Sorted2 (zs zs':List (Addr × List Int)):Prop:=zs'.Perm zs∧zs'.Pairwise fun a b => HT.lexLt b.2 a.2 = false
theorem sorted_out {zs:List (Addr × List Int)} {p:Array Nat} (hp:Pm zs.length p) (hu:Up (fun i => rank (zs.map (·.2)) ((zs.getD i (0,[])).2)) p zs.length):Sorted2 zs (p.toList.map fun i => zs.getD i (0,[])):=by
 have hperm:=Array.perm_iff_toList_perm.mp hp
 constructor
 ·have h1:=hperm.map fun i => zs.getD i (0,[])
  refine h1.trans (List.Perm.of_eq ?_)
  refine List.ext_getElem (by simp) fun i a b => ?_
  simp [b]
 ·rw [List.pairwise_map,List.pairwise_iff_getElem]
  intro i j hi hj hij
  have hsz:p.toList.length = zs.length:=by rw [Array.length_toList,hp.size]
  have h1:=hu i j (by omega) (by omega)
  have mem:∀ k (hk:k < p.toList.length),(zs.getD (p.toList[k]'hk) (0,[])).2 ∈ zs.map (·.2):=fun k hk => by
   have:p.toList[k] < zs.length:=by
    have:=hperm.mem_iff.mp (List.getElem_mem hk)
    simpa using this
   have e:zs.getD p.toList[k] (0,[]) = zs[p.toList[k]]:=by rw [List.getD_eq_getElem?_getD,List.getElem?_eq_getElem this]; rfl
   rw [e]
   exact List.mem_map_of_mem (List.getElem_mem _)
  have e:∀ k (hk:k < p.toList.length),at' p k = p.toList[k]:=fun k hk => by
   have:k < p.size:=by simpa using hk
   unfold at'; simp [Array.getD,this]
  unfold R at h1
  rw [e i hi,e j hj] at h1
  rw [← rank_lt (mem j hj) (mem i hi),decide_eq_false_iff_not]
  exact Int.not_lt.mpr h1
theorem sorted_gen {pins:List (Addr × Obj)} {s:Shared} {σ:St} {H:Hp} {Q:VK} {p:Addr} {zs:List (Addr × List Int)} (I:Inv X pins σ H s) (hz:∀ z ∈ zs,H z.1 = some (.tup (z.2.map V.int))∧z.2 ≠ []) (h64:zs.length < 64)
  (hcol:∀ Q':List Value→Shared→Prop,(∀ h1 tk,(∀ b o,s.heap.get? b = some o→h1.get? b = some o)→s.heap.objs.size ≤ h1.objs.size→Q' (zs.map fun z => Value.ref z.1) { s with heap:=h1,toks:=tk })→wpAny (model X.prog X.w) X.A.in1 (collect (.ref p)) Q' X.xe s)
  (q:∀ l zs',H l = none→Sorted2 zs zs'→Q (.ref l) (upd H l (.lst (zs'.map fun z => V.ref z.1)))):wpAny (model X.prog X.w) X.A (call (.builtin "sorted") [.ref p]) (EP X pins σ Q) X.xe s:=by
 have tup:∀ (h':Heap),(∀ b o,s.heap.get? b = some o→h'.get? b = some o)→∀ z ∈ zs,∃ it:List Value,Vals (z.2.map V.int) it∧∃ o n,h'.get? z.1 = some o∧o.cls = .type "tuple"∧o.data = .seq it.toArray n:=fun h' k z hm => by
  obtain ⟨_,it,rt,o,ho,hc,n,hd⟩:=(show ObjOk X.prog X.w H s.heap z.1 (.tup _) from I.hok _ _ (hz z hm).1)
  exact ⟨it,rt,o,n,k _ _ ho,hc,hd⟩
 have gd:∀ i,i < zs.length→(zs.map fun z => Value.ref z.1).getD i Value.none = .ref (zs.getD i (0,[])).1∧zs.getD i (0,[]) ∈ zs:=fun i hi => by
  constructor
  ·simp [hi]
  ·rw [show zs.getD i (0,[]) = zs[i] by simp [hi]]; exact List.getElem_mem _
 refine sorted_raw (κ:=tuples' true) (r:=fun i => rank (zs.map (·.2)) ((zs.getD i (0,[])).2)) (vs:=zs.map fun z => Value.ref z.1) (by rw [List.length_map]; exact h64) (fun Q' k => ?_) (fun h1 tk k1 h2 => ⟨fun Q2 q2 => ?_,fun i j C hi hj hC => ?_⟩) fun D h' tk c pp hD hp hu o' k' => ?_
 ·exact hcol Q' k
 ·have key:∀ ys:List (Addr × List Int),(∀ z ∈ ys,z ∈ zs)→∃ fs:List Value,PySem.W.KatTups h1 (ys.map fun z => Value.ref z.1) fs∧fs.length = ys.length∧∀ v ∈ fs,∃ n t,v = .int n t:=fun ys => by
   induction ys with
   | nil => intro _; exact ⟨[],trivial,rfl,fun v hv => by cases hv⟩
   | cons z ys ih =>
    intro hm
    obtain ⟨fs,g1,g2,g3⟩:=ih fun y hy => hm y (List.mem_cons_of_mem _ hy)
    obtain ⟨it,rt,o,n,ho,hc,hd⟩:=tup h1 k1 z (hm z List.mem_cons_self)
    obtain ⟨x,xs',ex⟩:=List.exists_cons_of_ne_nil (hz z (hm z List.mem_cons_self)).2
    rw [ex] at rt
    cases rt with
    | cons r0 t0 =>
     obtain ⟨t,rfl⟩:=r0
     exact ⟨.int x t :: fs,PySem.W.KatTups.cons ho hc hd (by simp) g1,by simp [g2],fun v hv => by
      rcases List.mem_cons.mp hv with e | e
      ·exact ⟨x,t,e⟩
      ·exact g3 v e⟩
  obtain ⟨fs,g1,g2,g3⟩:=key zs fun z hz => hz
  rw [List.length_map] at h2
  refine PySem.W.kat_kind (T:=.type "int") (s:={ s with heap:=h1,toks:=tk }) g1 (by omega) (fun v hv => ?_) rfl q2
  obtain ⟨n,t,rfl⟩:=g3 v hv
  exact PySem.W.Looks.of_pure rfl
 ·rw [List.length_map] at hi hj
  obtain ⟨ei,mi⟩:=gd i hi
  obtain ⟨ej,mj⟩:=gd j hj
  show wpAny _ _ (keyLt' (tuples' true) ((zs.map fun z => Value.ref z.1).getD i Value.none) ((zs.map fun z => Value.ref z.1).getD j Value.none)) C (fun _ _ => False) _
  rw [ei,ej]
  obtain ⟨it,rt,o,n,ho,hc,hd⟩:=tup h1 k1 _ mi
  obtain ⟨it2,rt2,o2,n2,ho2,hc2,hd2⟩:=tup h1 k1 _ mj
  rw [rank_lt (List.mem_map_of_mem mi) (List.mem_map_of_mem mj)] at hC
  refine PySem.W.kat_lt (s:={ s with heap:=h1,toks:=tk }) ho hd ho2 hd2 ?_
  have l1:=rt.length
  have l2:=rt2.length
  rw [List.length_map] at l1 l2
  rw [List.size_toArray,List.size_toArray,← l1,← l2]
  exact lex_same 0 rt rt2 hC
 ·rw [List.length_map] at hp hu
  have so:=sorted_out hp hu
  have eo:(pp.toList.map fun i => (zs.map fun z => Value.ref z.1).getD i Value.none) = (pp.toList.map fun i => zs.getD i (0,[])).map fun z => Value.ref z.1:=by
   rw [List.map_map]
   refine List.map_congr_left fun i hi => ?_
   have:i < zs.length:=by
    have:=(Array.perm_iff_toList_perm.mp hp).mem_iff.mp hi
    simpa using this
   exact (gd i this).1
  rw [eo] at o'
  have hlen:=so.1.length_eq
  refine ⟨.ref D,_,I.laid (t':=tk) (o:=.lst ((pp.toList.map fun i => zs.getD i (0,[])).map fun z => V.ref z.1)) k' hD ⟨by rw [List.length_map,hlen,sizeLine_eq]; omega,_,c,?_,o'⟩,rfl,q _ _ (I.hok.fresh hD) so⟩
  exact vals_fst _
theorem call_sortedT:CallR X (.builtin "sorted") (fun xs H Q => ∃ (p:Addr) (zs:List (Addr × List Int)),xs = [.ref p]∧SqL X.K H p (zs.map fun z => V.ref z.1)∧(∀ z ∈ zs,H z.1 = some (.tup (z.2.map V.int))∧z.2 ≠ [])∧zs.length < 64 ∧
  ∀ l zs',H l = none→Sorted2 zs zs'→Q (.ref l) (upd H l (.lst (zs'.map fun z => V.ref z.1)))):=by
 intro pins s σ H xs us Q I r h
 obtain ⟨p,zs,rfl,hq,hz,h64,q⟩:=h
 obtain ⟨u,rfl,rx⟩:=vals1 r
 cases rx
 obtain ⟨its,rv,pl,_⟩:=I.list hq
 have hits:its = zs.map fun z => Value.ref z.1:=by
  have:=refs_of (as:=zs.map (·.1)) (us:=its) (by rw [List.map_map]; exact rv)
  rw [this,List.map_map]; rfl
 subst hits
 have isl:=pl.isList
 refine sorted_gen I hz h64 (fun Q' k => ?_) q
 refine collect_list isl ?_ (by rw [List.length_map,sizeLine_eq]; omega)
 refine k _ s.toks (fun b o e => ?_) (by rw [Heap.size_update,size_push']; exact Nat.le_succ _)
 rw [Heap.get?_update_ne _ _ _ _ (Nat.ne_of_lt (Heap.lt_size e))]
 exact Heap.get?_push_of_some _ e
end
end L2
namespace Wlk
noncomputable abbrev Pl:=Int × Int
noncomputable abbrev WStep:=Pl × Pl
noncomputable def cout (nw ne sw se:Bool):Fin 4→Bool
 | 0 => se && !ne
 | 1 => sw && !se
 | 2 => nw && !sw
 | 3 => ne && !nw
noncomputable def nx (nw ne sw se:Bool) (d:Fin 4):Fin 4:=if cout nw ne sw se (d + 1) = true then d + 1 else if cout nw ne sw se d = true then d else d + 3
section
variable (land:List Pl) (b:Pl)
end
noncomputable def rtS (s:WStep):Pl:=(s.2.1 + s.2.2 - s.1.2,s.2.2 + s.1.1 - s.2.1)
noncomputable def fromB (ss:List WStep) (b:Pl):List WStep:=ss.filter fun o => decide (o.1 = b)
noncomputable def nxt (ss:List WStep) (s:WStep):WStep:=if (s.2,rtS s) ∈ ss then (s.2,rtS s) else (fromB ss s.2).headD s
section
variable {land:List Pl} {ss:List WStep}
end
end Wlk
namespace Cyc
section
variable {α:Type} [DecidableEq α]
noncomputable def it (f:α→α):Nat→α→α
 | 0,s => s
 | n + 1,s => f (it f n s)
theorem sub_len:∀ {xs ys:List α},xs.Nodup→(∀ x ∈ xs,x ∈ ys)→xs.length ≤ ys.length
 | [],_,_,_ => Nat.zero_le _
 | x :: xs,ys,hn,h => by
  have hx:=h x List.mem_cons_self
  have hn':=List.nodup_cons.mp hn
  have ih:=sub_len (ys:=ys.erase x) hn'.2 fun y hy => by
   refine (List.mem_erase_of_ne fun z => ?_).mpr (h y (List.mem_cons_of_mem _ hy))
   subst z; exact hn'.1 hy
  rw [List.length_erase_of_mem hx] at ih
  have:=List.length_pos_of_mem hx
  rw [List.length_cons]; omega
variable {l:List α} {f:α→α}
noncomputable def Per (f:α→α) (s:α) (m:Nat):Prop:=1 ≤ m∧it f m s = s∧∀ k,1 ≤ k→k < m→it f k s ≠ s
open Classical in
noncomputable def per (f:α→α) (s:α):Nat:=if h:∃ m,Per f s m then h.choose else 0
noncomputable def orb (f:α→α) (s:α):List α:=(List.range (per f s)).map fun i => it f i s
noncomputable def stF (o:α→List α) (wd:List (List α) × List α) (s:α):List (List α) × List α:=if s ∈ wd.2 then wd else (wd.1 ++ [o s],wd.2 ++ o s)
end
end Cyc
namespace Srt
open PySem PySem.W PyProof.Rows L2
noncomputable def fl:List (Int × Int)→List Int
 | [] => []
 | c :: cs => c.1 :: c.2 :: fl cs
theorem fl_inj:∀ {a b:List (Int × Int)},fl a = fl b→a = b
 | [],[],_ => rfl
 | [],_ :: _,h => by cases h
 | _ :: _,[],h => by cases h
 | c :: a,d :: b,h => by
  injection h with h1 h2
  injection h2 with h2 h3
  rw [fl_inj h3,Prod.ext h1 h2]
theorem out_gen {β:Type} {zs:List β} (z0:β) (key:β→List Int) {p:Array Nat} (hp:Pm zs.length p) (hu:Up (fun i => rank (zs.map key) (key (zs.getD i z0))) p zs.length) :
  (p.toList.map fun i => zs.getD i z0).Perm zs∧(p.toList.map fun i => zs.getD i z0).Pairwise fun a b => HT.lexLt (key b) (key a) = false:=by
 have hperm:=Array.perm_iff_toList_perm.mp hp
 have inz:∀ k (hk:k < p.toList.length),p.toList[k] < zs.length:=fun k hk => by
  have:=hperm.mem_iff.mp (List.getElem_mem hk)
  simpa using this
 refine ⟨(hperm.map fun i => zs.getD i z0).trans (List.Perm.of_eq (List.ext_getElem (by simp) fun i a b => by simp [b])),?_⟩
 rw [List.pairwise_map,List.pairwise_iff_getElem]
 intro i j hi hj hij
 have hsz:p.toList.length = zs.length:=by rw [Array.length_toList,hp.size]
 have h1:=hu i j (by omega) (by omega)
 have mem:∀ k (hk:k < p.toList.length),key (zs.getD (p.toList[k]'hk) z0) ∈ zs.map key:=fun k hk => by
  have e:zs.getD p.toList[k] z0 = zs[p.toList[k]]'(inz k hk):=by rw [List.getD_eq_getElem?_getD,List.getElem?_eq_getElem (inz k hk)]; rfl
  rw [e]
  exact List.mem_map_of_mem (List.getElem_mem _)
 have e:∀ k (hk:k < p.toList.length),at' p k = p.toList[k]:=fun k hk => by
  have:k < p.size:=by simpa using hk
  unfold at'; simp [Array.getD,this]
 unfold R at h1
 rw [e i hi,e j hj] at h1
 rw [← rank_lt (mem j hj) (mem i hi),decide_eq_false_iff_not]
 exact Int.not_lt.mpr h1
end Srt
namespace L2
open PySem PySem.Spec PyProof.Rows Srt
noncomputable def SqA (H:Hp) (a:Addr) (cs:List (Int × Int)):Prop:=∃ ps:List Addr,H a = some (.tup (ps.map V.ref))∧PlAt H ps cs
theorem SqA.same {H H':Hp} {a:Addr} {cs:List (Int × Int)} (h:SqA H a cs) (s:Same H H'):SqA H' a cs:=let ⟨ps,h1,h2⟩:=h; ⟨ps,s _ _ h1,h2.same s⟩
noncomputable def SortedP (zs zs':List (Addr × List (Int × Int))):Prop:=zs'.Perm zs∧zs'.Pairwise fun a b => HT.lexLt (fl b.2) (fl a.2) = false
section
variable {X:Cx}
theorem lexP_same {pins:List (Addr × Obj)} {σ:St} {H:Hp} {A:Around} {C:Bool→Shared→Prop} {s:Shared} (I:Inv X pins σ H s) (hu:A.units < cLine):∀ {ps qs:List Addr} {cs ds:List (Int × Int)} (i:Nat),PlAt H ps cs→PlAt H qs ds→C (HT.lexLt (fl cs) (fl ds)) s →
  PySem.W.KatLex X.prog X.w A false (decide (ps.length < qs.length)) C ((ps.map Value.ref).zip (qs.map Value.ref)) i s
 | [],[],[],[],i,.nil,.nil,h => by
  show C (decide (0 < 0)) s
  exact h
 | [],q :: qs,[],d :: ds,i,.nil,.cons _ _,h => by
  show C (decide (0 < qs.length + 1)) s
  rw [decide_eq_true (by omega)]; exact h
 | p :: ps,[],c :: cs,[],i,.cons _ _,.nil,h => by
  show C (decide (ps.length + 1 < 0)) s
  rw [decide_eq_false (by omega)]; exact h
 | p :: ps,q :: qs,c :: cs,d :: ds,i,.cons r1 t1,.cons r2 t2,h => by
  show PySem.W.KatLex X.prog X.w A false (decide (ps.length + 1 < qs.length + 1)) C ((Value.ref p,Value.ref q) :: (ps.map Value.ref).zip (qs.map Value.ref)) i s
  refine PySem.W.kat_cons (eq_place I hu r1 r2 X.prog X.w _ _ ?_)
  have e0:HT.lexLt (fl (c :: cs)) (fl (d :: ds)) = if c = d then HT.lexLt (fl cs) (fl ds) else HT.lexLt [c.1,c.2] [d.1,d.2]:=by
   obtain ⟨c1,c2⟩:=c
   obtain ⟨d1,d2⟩:=d
   show HT.lexLt (c1 :: c2 :: fl cs) (d1 :: d2 :: fl ds) = _
   rw [HT.lexLt_cons,HT.lexLt_cons,HT.lexLt_cons,HT.lexLt_cons]
   by_cases e1:c1 = d1
   ·subst e1
    by_cases e2:c2 = d2
    ·subst e2; simp
    ·simp [e2]
   ·simp [e1]
  rw [e0] at h
  by_cases e:c = d
  ·rw [decide_eq_true e]
   rw [if_pos e] at h
   refine PySem.W.kat_yes ?_
   rw [show decide (ps.length + 1 < qs.length + 1) = decide (ps.length < qs.length) by simp]
   exact lexP_same I hu (i + 1) t1 t2 h
  ·rw [decide_eq_false e]
   rw [if_neg e] at h
   refine PySem.W.kat_no (PySem.W.kat_one _ _ ?_)
   obtain ⟨its,s1,p1,_⟩:=I.tuple (SqT.of (K:=X.K) r1)
   obtain ⟨its2,s2,p2,_⟩:=I.tuple (SqT.of (K:=X.K) r2)
   have i1:IntsAre its.toArray.toList [c.1,c.2]:=intsAre_of s1
   have i2:IntsAre its2.toArray.toList [d.1,d.2]:=intsAre_of s2
   exact HT.lt_tupInts p1 p2 i1 i2 hu h
end
end L2
namespace PySem
section
variable {prog:Program} {w:World} {A:Around} {E:Value→Shared→Prop} {s:Shared}
end
end PySem
namespace L2
open PySem PySem.Spec PyProof.Rows
section
variable {X:Cx}
end
end L2
namespace L2
open PySem PySem.Spec PyProof.Rows
end L2
namespace L2
open PySem PySem.Spec PyProof.Rows
noncomputable def E3 (R:V→V→Bool→Prop):List V→List V→List Bool→Prop
 | [],[],[] => True
 | x :: xs,y :: ys,k :: ks => R x y k∧E3 R xs ys ks
 | _,_,_ => False
noncomputable def EqF (a b:V) (k:Bool):Prop:=(∃ i j,a = .int i∧b = .int j∧k = decide (i = j)) ∨ ∃ x y,a = .str x∧b = .str y∧k = decide (x = y)
noncomputable def EqD (H:Hp):Nat→V→V→Bool→Prop
 | 0,a,b,k => EqF a b k
 | n + 1,a,b,k => EqF a b k ∨ ∃ p q xs ys ks,a = .ref p∧b = .ref q∧((H p = some (.tup xs)∧H q = some (.tup ys)) ∨ (H p = some (.lst xs)∧H q = some (.lst ys)))∧E3 (EqD H n) xs ys ks∧k = ks.all id
theorem E3.len {R:V→V→Bool→Prop}:∀ {xs ys:List V} {ks:List Bool},E3 R xs ys ks→xs.length = ys.length∧xs.length = ks.length
 | [],[],[],_ => ⟨rfl,rfl⟩
 | x :: xs,y :: ys,k :: ks,h => by
  have:=E3.len h.2
  simp only [List.length_cons]; omega
 | [],[],_ :: _,h => h.elim
 | [],_ :: _,_,h => h.elim
 | _ :: _,[],_,h => h.elim
 | _ :: _,_ :: _,[],h => h.elim
theorem E3.get {R:V→V→Bool→Prop}:∀ {xs ys:List V} {ks:List Bool} {i:Nat} {x y:V},E3 R xs ys ks→xs[i]? = some x→ys[i]? = some y→∃ k,ks[i]? = some k∧R x y k
 | x :: xs,y :: ys,k :: ks,0,_,_,h,h1,h2 => by cases h1; cases h2; exact ⟨k,rfl,h.1⟩
 | x :: xs,y :: ys,k :: ks,i + 1,_,_,h,h1,h2 => E3.get (i:=i) h.2 (by simpa using h1) (by simpa using h2)
 | [],_,_,_,_,_,_,h1,_ => by simp at h1
 | _ :: _,[],_,_,_,_,h,_,_ => h.elim
 | _ :: _,_ :: _,[],_,_,_,h,_,_ => h.elim
theorem EqF.refl_true {a:V} {k:Bool} (h:EqF a a k):k = true:=by
 rcases h with ⟨i,j,h1,h2,h3⟩ | ⟨x,y,h1,h2,h3⟩
 ·rw [h1] at h2; rw [h3,V.int.inj h2]; simp
 ·rw [h1] at h2; rw [h3,V.str.inj h2]; simp
theorem EqD.refl_true {H:Hp}:∀ {n:Nat} {a:V} {k:Bool},EqD H n a a k→k = true
 | 0,a,k,h => EqF.refl_true h
 | n + 1,a,k,h => by
  rcases h with h | ⟨p,q,xs,ys,ks,h1,h2,h3,h4,h5⟩
  ·exact EqF.refl_true h
  ·rw [h1] at h2
   cases h2
   have e:xs = ys:=by
    rcases h3 with ⟨u,v⟩ | ⟨u,v⟩
    ·rw [u] at v; cases v; rfl
    ·rw [u] at v; cases v; rfl
   subst e
   rw [h5,List.all_eq_true]
   have go:∀ {xs:List V} {ks:List Bool},E3 (EqD H n) xs xs ks→∀ k ∈ ks,id k = true:=fun {xs ks} => by
    induction xs generalizing ks with
    | nil => intro h k hk; cases ks with | nil => cases hk | cons _ _ => exact h.elim
    | cons x xs ih =>
     intro h k hk
     cases ks with
     | nil => cases hk
     | cons k0 ks =>
      rcases List.mem_cons.mp hk with z | z
      ·rw [z]; exact EqD.refl_true h.1
      ·exact ih h.2 k z
   exact go h4
theorem EqD.int {H:Hp} (n:Nat) (i j:Int):EqD H n (.int i) (.int j) (decide (i = j)):=by
 cases n with
 | zero => exact .inl ⟨i,j,rfl,rfl,rfl⟩
 | succ n => exact .inl (.inl ⟨i,j,rfl,rfl,rfl⟩)
section
variable {X:Cx} {pins:List (Addr × Obj)} {σ:St} {H:Hp} {s:Shared}
theorem all_range (ks:List Bool):(List.range ks.length).all (fun j => ks.getD j true) = ks.all id:=by
 rw [Bool.eq_iff_iff,List.all_eq_true,List.all_eq_true]
 constructor
 ·intro h k hk
  obtain ⟨j,hj,e⟩:=List.getElem_of_mem hk
  have:=h j (by simpa using hj)
  rw [show ks.getD j true = ks[j] by simp [hj],e] at this
  exact this
 ·intro h j hj
  have hj':j < ks.length:=by simpa using hj
  rw [show ks.getD j true = ks[j] by simp [hj']]
  exact h _ (List.getElem_mem _)
theorem items_eq {A:Around} {n:Nat} {xs ys:List V} {us ws:List Value} {ks:List Bool} (ih:∀ {a b:V} {k:Bool} {u v:Value},EqD H n a b k→RelV a u→RelV b v→SeqAt.EqAt A s u v k) (h4:E3 (EqD H n) xs ys ks) (r1:Vals xs us) (r2:Vals ys ws) :
  ∀ j (h1:j < us.toArray.size) (h2:j < ws.toArray.size),SeqAt.EqAt A s us.toArray[j] ws.toArray[j] (ks.getD j true):=fun j h1 h2 => by
 have hl:=h4.len
 have l1:=r1.length
 have l2:=r2.length
 rw [List.size_toArray] at h1 h2
 have j1:j < xs.length:=by omega
 have j2:j < ys.length:=by omega
 obtain ⟨u,hu,ru⟩:=r1.get (List.getElem?_eq_getElem j1)
 obtain ⟨v,hv,rv⟩:=r2.get (List.getElem?_eq_getElem j2)
 obtain ⟨k,hk,e⟩:=h4.get (List.getElem?_eq_getElem j1) (List.getElem?_eq_getElem j2)
 have eu:us.toArray[j] = u:=by
  have:=(List.getElem?_eq_some_iff.mp hu).2
  simpa using this
 have ev:ws.toArray[j] = v:=by
  have:=(List.getElem?_eq_some_iff.mp hv).2
  simpa using this
 rw [eu,ev,show ks.getD j true = k by rw [List.getD_eq_getElem?_getD,hk]; rfl]
 exact ih e ru rv
theorem rc_seq {A:Around} {n:Nat} {p q:Addr} {xs ys:List V} {ks:List Bool} (I:Inv X pins σ H s) (hu:A.units < cLine) (ih:∀ {a b:V} {k:Bool} {u v:Value},EqD H n a b k→RelV a u→RelV b v→SeqAt.EqAt A.in1 s u v k)
  (h3:(H p = some (.tup xs)∧H q = some (.tup ys)) ∨ (H p = some (.lst xs)∧H q = some (.lst ys))) (h4:E3 (EqD H n) xs ys ks):SeqAt.RcAt A s (.ref p) (.ref q) (ks.all id)∧SeqAt.RcNeAt A s (.ref p) (.ref q) (!ks.all id):=by
 have hl:=h4.len
 rcases h3 with ⟨hp,hq⟩ | ⟨hp,hq⟩
 ·obtain ⟨us,r1,p1,_⟩:=I.tuple (SqT.of hp)
  obtain ⟨ws,r2,p2,_⟩:=I.tuple (SqT.of hq)
  have l1:=r1.length
  have l2:=r2.length
  have e:((List.range (min us.toArray.size ws.toArray.size)).all (fun j => ks.getD j true) && us.toArray.size == ws.toArray.size) = ks.all id:=by
   rw [List.size_toArray,List.size_toArray,show min us.length ws.length = ks.length by omega,all_range,show us.length = ws.length by omega]
   simp
  have k1:=SeqAt.RcAt.tuples p1 p2 hu (items_eq ih h4 r1 r2)
  have k2:=SeqAt.RcNeAt.tuples p1 p2 hu (items_eq ih h4 r1 r2)
  rw [e] at k1 k2
  exact ⟨k1,k2⟩
 ·obtain ⟨us,r1,p1,_⟩:=I.list (SqL.of hp)
  obtain ⟨ws,r2,p2,_⟩:=I.list (SqL.of hq)
  have l1:=r1.length
  have l2:=r2.length
  have e:(List.range us.toArray.size).all (fun j => ks.getD j true) = ks.all id:=by rw [List.size_toArray,show us.length = ks.length by omega,all_range]
  have hz:us.toArray.size = ws.toArray.size:=by rw [List.size_toArray,List.size_toArray]; omega
  have k1:=SeqAt.RcAt.lists p1.isList p2.isList hz hu (items_eq ih h4 r1 r2)
  have k2:=SeqAt.RcNeAt.lists p1.isList p2.isList hz hu (items_eq ih h4 r1 r2)
  rw [e] at k1 k2
  exact ⟨k1,k2⟩
theorem eqD_at (I:Inv X pins σ H s):∀ {n:Nat} {A:Around} {a b:V} {k:Bool} {u v:Value},A.units + n < cLine→EqD H n a b k→RelV a u→RelV b v→SeqAt.EqAt A s u v k:=by
 have flat:∀ {A:Around} {a b:V} {k:Bool} {u v:Value},EqF a b k→RelV a u→RelV b v→SeqAt.EqAt A s u v k:=fun {A a b k u v} h ra rb => by
  rcases h with ⟨i,j,rfl,rfl,rfl⟩ | ⟨x,y,rfl,rfl,rfl⟩
  ·obtain ⟨t,rfl⟩:=ra
   obtain ⟨t',rfl⟩:=rb
   have:=SeqAt.EqAt.int_int (A:=A) (s:=s) i t j t'
   rwa [show (i == j) = decide (i = j) by rw [Bool.eq_iff_iff]; simp] at this
  ·obtain ⟨t,rfl⟩:=ra
   obtain ⟨t',rfl⟩:=rb
   have:=SeqAt.EqAt.str_str (A:=A) (s:=s) x t y t'
   rwa [show (x == y) = decide (x = y) by rw [Bool.eq_iff_iff]; simp] at this
 intro n
 induction n with
 | zero => intro A a b k u v _ h ra rb; exact flat h ra rb
 | succ n ih =>
  intro A a b k u v hu h ra rb
  rcases h with h | ⟨p,q,xs,ys,ks,rfl,rfl,h3,h4,rfl⟩
  ·exact flat h ra rb
  ·cases ra
   cases rb
   by_cases hpq:p = q
   ·subst hpq
    have:(ks.all id) = true:=EqD.refl_true (n:=n + 1) (H:=H) (a:=.ref p) (.inr ⟨p,p,xs,ys,ks,rfl,rfl,h3,h4,rfl⟩)
    rw [this]
    exact SeqAt.EqAt.same _
   ·exact SeqAt.EqAt.of_refs hpq (rc_seq I (by omega) (fun e r1 r2 => ih (show A.in1.units + n < cLine by show A.units + 1 + n < cLine; omega) e r1 r2) h3 h4).1
end
section
variable {X:Cx}
noncomputable def rSeqD (n:Nat) (g:Bool→Bool):R2:=fun x y H Q => ∃ p q xs ys ks,x = .ref p∧y = .ref q∧((H p = some (.tup xs)∧H q = some (.tup ys)) ∨ (H p = some (.lst xs)∧H q = some (.lst ys)))∧E3 (EqD H n) xs ys ks∧Q (.bl (g (ks.all id))) H
theorem op_eqD (n:Nat) (hu:X.A.units + n + 1 < cLine):OpR X (compareOp .Eq) (rSeqD n id):=by
 intro pins s σ H x y v u Q I rx ry h
 obtain ⟨p,q,xs,ys,ks,rfl,rfl,h3,h4,hq⟩:=h
 cases rx
 cases ry
 exact (rc_seq I (by omega) (fun e r1 r2 => eqD_at I (show X.A.in1.units + n < cLine by show X.A.units + 1 + n < cLine; omega) e r1 r2) h3 h4).1 X.prog X.w X.xe _ ⟨.bl _,H,I,rfl,hq⟩
noncomputable def rInD (n:Nat) (g:Bool→Bool):R2:=fun x y H Q => ∃ q xs ks,y = .ref q∧(H q = some (.tup xs) ∨ H q = some (.lst xs))∧E3 (EqD H n) xs (xs.map fun _ => x) ks∧Q (.bl (g (ks.any id))) H
theorem relV_inj:∀ {a b:V} {u:Value},RelV a u→RelV b u→a = b:=fun {a b u} ha hb => by
 cases a <;> cases b <;> simp only [RelV] at ha hb <;> first
  | rfl
  | (subst ha; cases hb; rfl)
  | (subst ha; cases hb; done)
  | (obtain ⟨t,rfl⟩:=ha; obtain ⟨t',e⟩:=hb; cases e; rfl)
  | (obtain ⟨t,rfl⟩:=ha; obtain ⟨t',e⟩:=hb; cases e; done)
  | (obtain ⟨t,rfl⟩:=ha; cases hb; done)
  | (obtain ⟨t,rfl⟩:=hb; cases ha; done)
theorem EqF.func {a b:V} {k k':Bool} (h:EqF a b k) (h':EqF a b k'):k = k':=by
 rcases h with ⟨i,j,rfl,rfl,rfl⟩ | ⟨x,y,rfl,rfl,rfl⟩
 ·rcases h' with ⟨i',j',h1,h2,rfl⟩ | ⟨x,y,h1,h2,rfl⟩
  ·cases h1; cases h2; rfl
  ·cases h1
 ·rcases h' with ⟨i',j',h1,h2,rfl⟩ | ⟨x',y',h1,h2,rfl⟩
  ·cases h1
  ·cases h1; cases h2; rfl
theorem EqF.noref {p:Addr} {b:V} {k:Bool} (h:EqF (.ref p) b k):False:=by
 rcases h with ⟨i,j,h1,_⟩ | ⟨x,y,h1,_⟩ <;> cases h1
theorem EqD.func {H:Hp}:∀ {n:Nat} {a b:V} {k k':Bool},EqD H n a b k→EqD H n a b k'→k = k'
 | 0,a,b,k,k',h,h' => EqF.func h h'
 | n + 1,a,b,k,k',h,h' => by
  rcases h with h | ⟨p,q,xs,ys,ks,rfl,rfl,h3,h4,rfl⟩
  ·rcases h' with h' | ⟨p,q,xs,ys,ks,rfl,rfl,h3,h4,rfl⟩
   ·exact EqF.func h h'
   ·exact h.noref.elim
  ·rcases h' with h' | ⟨p',q',xs',ys',ks',e1,e2,h3',h4',rfl⟩
   ·exact h'.noref.elim
   ·cases e1; cases e2
    have ex:xs = xs'∧ys = ys':=by
     rcases h3 with ⟨u,v⟩ | ⟨u,v⟩ <;> rcases h3' with ⟨u',v'⟩ | ⟨u',v'⟩ <;> rw [u] at u' <;> rw [v] at v' <;> cases u' <;> cases v' <;> exact ⟨rfl,rfl⟩
    obtain ⟨rfl,rfl⟩:=ex
    have go:∀ {xs ys:List V} {ks ks':List Bool},E3 (EqD H n) xs ys ks→E3 (EqD H n) xs ys ks'→ks = ks':=fun {xs} => by
     induction xs with
     | nil =>
      intro ys ks ks' g g'
      cases ys with
      | nil =>
       cases ks with
       | nil => cases ks' with | nil => rfl | cons _ _ => exact g'.elim
       | cons _ _ => exact g.elim
      | cons _ _ => exact g.elim
     | cons x xs ih =>
      intro ys ks ks' g g'
      cases ys with
      | nil => exact g.elim
      | cons y ys =>
       cases ks with
       | nil => exact g.elim
       | cons k ks =>
        cases ks' with
        | nil => exact g'.elim
        | cons k' ks' => rw [EqD.func g.1 g'.1,ih g.2 g'.2]
    rw [go h4 h4']
open Classical in
theorem any_in {H:Hp} {n:Nat} {x:V} {e:Value→Bool} (he:∀ a u k,RelV a u→EqD H n a x k→e u = k):∀ {xs:List V} {us:List Value} {ks:List Bool},Vals xs us→E3 (EqD H n) xs (xs.map fun _ => x) ks→us.any e = ks.any id
 | [],_,[],.nil,_ => rfl
 | [],_,_ :: _,.nil,h => h.elim
 | y :: xs,_,k :: ks,.cons r t,h => by
  rw [List.any_cons,List.any_cons,he _ _ _ r h.1,any_in he t h.2]; rfl
 | _ :: _,_,[],.cons _ _,h => h.elim
open Classical in
theorem in_core {A:Around} {n:Nat} {x:V} {v:Value} {xs:List V} {us:List Value} {ks:List Bool} {pins:List (Addr × Obj)} {σ:St} {H:Hp} {s:Shared} (I:Inv X pins σ H s) (hu:A.units + n < cLine) (rx:RelV x v) (r:Vals xs us) (h:E3 (EqD H n) xs (xs.map fun _ => x) ks) :
  ∃ e:Value→Bool,(∀ y ∈ us,SeqAt.EqAt A s y v (e y))∧us.any e = ks.any id:=by
 refine ⟨fun y => decide (∃ a,RelV a y∧EqD H n a x true),fun y hy => ?_,any_in (fun a u k ra hk => ?_) r h⟩
 ·obtain ⟨j,hj,e⟩:=List.getElem_of_mem hy
  have hl:=r.length
  have hjx:j < xs.length:=by omega
  obtain ⟨u,hu',ru⟩:=r.get (List.getElem?_eq_getElem hjx)
  have eu:u = y:=by
   rw [List.getElem?_eq_getElem hj,e] at hu'
   exact (Option.some.inj hu').symm
  subst eu
  obtain ⟨k,hk,ek⟩:=h.get (List.getElem?_eq_getElem hjx) (y:=x) (by rw [List.getElem?_map,List.getElem?_eq_getElem hjx]; rfl)
  have:decide (∃ a,RelV a u∧EqD H n a x true) = k:=by
   cases k with
   | true => exact decide_eq_true ⟨_,ru,ek⟩
   | false =>
    refine decide_eq_false ?_
    rintro ⟨a,ra,ea⟩
    have:=relV_inj ra ru
    subst this
    cases EqD.func ek ea
  show SeqAt.EqAt A s u v (decide (∃ a,RelV a u∧EqD H n a x true))
  rw [this]
  exact eqD_at I hu ek ru rx
 ·cases k with
  | true => exact decide_eq_true ⟨a,ra,hk⟩
  | false =>
   refine decide_eq_false ?_
   rintro ⟨b,rb,eb⟩
   have:=relV_inj rb ra
   subst this
   cases EqD.func hk eb
theorem op_inD (n:Nat) (hu:X.A.units + n + 1 < cLine):OpR X (compareOp .In) (rInD n id):=by
 intro pins s σ H x y v u Q I rx ry h
 obtain ⟨q,xs,ks,rfl,hq,h4,hQ⟩:=h
 cases ry
 have hu':X.A.in1.units + n < cLine:=by show X.A.units + 1 + n < cLine; omega
 rcases hq with hq | hq
 ·obtain ⟨us,r,p,_⟩:=I.tuple (SqT.of hq)
  obtain ⟨e,e1,e2⟩:=in_core I hu' rx r h4
  refine SeqAt.in_tupleAt e p (fun y hy => e1 y (by simpa using hy)) ⟨.bl _,H,I,rfl,?_⟩
  rw [show us.toArray.any e = us.any e by simp,e2]; exact hQ
 ·obtain ⟨us,r,p,_⟩:=I.list (SqL.of hq)
  obtain ⟨e,e1,e2⟩:=in_core I hu' rx r h4
  refine SeqAt.in_listAt e p.isList (fun y hy => e1 y (by simpa using hy)) ⟨.bl _,H,I,rfl,?_⟩
  rw [show us.toArray.any e = us.any e by simp,e2]; exact hQ
theorem op_notInD (n:Nat) (hu:X.A.units + n + 1 < cLine):OpR X (compareOp .NotIn) (rInD n not):=by
 intro pins s σ H x y v u Q I rx ry h
 obtain ⟨q,xs,ks,rfl,hq,h4,hQ⟩:=h
 cases ry
 have hu':X.A.in1.units + n < cLine:=by show X.A.units + 1 + n < cLine; omega
 rcases hq with hq | hq
 ·obtain ⟨us,r,p,_⟩:=I.tuple (SqT.of hq)
  obtain ⟨e,e1,e2⟩:=in_core I hu' rx r h4
  refine SeqAt.notIn_tupleAt e p (fun y hy => e1 y (by simpa using hy)) ⟨.bl _,H,I,rfl,?_⟩
  rw [show us.toArray.any e = us.any e by simp,e2]; exact hQ
 ·obtain ⟨us,r,p,_⟩:=I.list (SqL.of hq)
  obtain ⟨e,e1,e2⟩:=in_core I hu' rx r h4
  refine SeqAt.notIn_listAt e p.isList (fun y hy => e1 y (by simpa using hy)) ⟨.bl _,H,I,rfl,?_⟩
  rw [show us.toArray.any e = us.any e by simp,e2]; exact hQ
end
end L2
namespace PySem.SeqAt
open AutoSeq1 (wpAny_loadPart')
open MeetsSeq MeetsSeq2 MeetsSeq3 SeqRoads2
end PySem.SeqAt
namespace L2
open PySem PySem.Spec PyProof.Rows
section
variable {X:Cx}
noncomputable def rNeNil (g:Bool→Bool):R2:=fun x y H Q => ∃ p q xs,x = .ref p∧y = .ref q∧H p = some (.lst xs)∧H q = some (.lst [])∧Q (.bl (g (decide (xs = [])))) H
theorem op_neNil (hu:X.A.units + 1 < cLine):OpR X (compareOp .NotEq) (rNeNil not):=by
 intro pins s σ H x y v u Q I rx ry h
 obtain ⟨p,q,xs,rfl,rfl,h1,h2,hq⟩:=h
 cases rx
 cases ry
 obtain ⟨us,r1,p1,_⟩:=I.list (SqL.of (K:=X.K) h1)
 obtain ⟨ws,r2,p2,_⟩:=I.list (SqL.of (K:=X.K) h2)
 have e2:ws = []:=by cases r2; rfl
 subst e2
 cases xs with
 | nil =>
  have e1:us = []:=by cases r1; rfl
  subst e1
  have k:=SeqAt.RcNeAt.lists (A:=X.A) (s:=s) (e:=fun _ => true) p1.isList p2.isList rfl (by omega) (fun j h1 _ => absurd h1 (by simp))
  exact k X.prog X.w X.xe _ ⟨.bl _,H,I,rfl,hq⟩
 | cons x xs =>
  have l1:=r1.length
  have k:=SeqAt.RcNeAt.lists_lengths (A:=X.A) (s:=s) p1.isList p2.isList (by rw [List.size_toArray,List.size_toArray,← l1]; simp) (by omega)
  exact k X.prog X.w X.xe _ ⟨.bl _,H,I,rfl,hq⟩
end
end L2
namespace Grd
open PySem PyProof.Rows
noncomputable def ltP (c d:Int × Int):Prop:=HT.lexLt [c.1,c.2] [d.1,d.2] = true
theorem ltP_row {r j k:Int} (h:j < k):ltP (r,j) (r,k):=by
 unfold ltP
 rw [HT.lexLt_cons,if_pos rfl,HT.lexLt_cons,if_neg (by show ¬ j = k; omega)]
 exact decide_eq_true h
theorem ltP_rows {r s j k:Int} (h:r < s):ltP (r,j) (s,k):=by
 unfold ltP
 rw [HT.lexLt_cons,if_neg (by show ¬ r = s; omega)]
 exact decide_eq_true h
theorem zip_up {α:Type} (xs:List α):xs.zipIdx.Pairwise fun a b => a.2 < b.2:=by
 rw [List.pairwise_iff_getElem]
 intro i j hi hj hij
 simp only [List.getElem_zipIdx]
 omega
theorem rowF_up (f:Int→Bool) (r:Int) (xs:List Int):(rowF f r xs).Pairwise ltP:=by
 unfold rowF
 rw [List.pairwise_filterMap]
 refine (zip_up xs).imp fun {a b} h c hc d hd => ?_
 cases ha:f a.1 with
 | false => simp [ha] at hc
 | true =>
  cases hb:f b.1 with
  | false => simp [hb] at hd
  | true =>
   simp only [ha,if_true,Option.some.injEq] at hc
   simp only [hb,if_true,Option.some.injEq] at hd
   subst hc hd
   exact ltP_row (by omega)
theorem gridF_up (f:Int→Bool) (g:Grid):(gridF f g).Pairwise ltP:=by
 unfold gridF
 rw [List.pairwise_flatten]
 refine ⟨fun l hl => ?_,?_⟩
 ·obtain ⟨p,_,rfl⟩:=List.mem_map.mp hl
  exact rowF_up _ _ _
 ·rw [List.pairwise_map]
  refine (zip_up g).imp fun {a b} h c hc d hd => ?_
  obtain ⟨e1,_⟩:=mem_rowF.mp hc
  obtain ⟨e2,_⟩:=mem_rowF.mp hd
  obtain ⟨c1,c2⟩:=c
  obtain ⟨d1,d2⟩:=d
  dsimp only at e1 e2
  subst e1 e2
  exact ltP_rows (by omega)
noncomputable def LandOf (g:Grid) (cs:List (Int × Int)):Prop:=cs.Sublist (gridF pos g)
end Grd
namespace L2
open PySem Grd
theorem PlAt.at {H:Hp}:∀ {ps:List Addr} {cs:List (Int × Int)} {i:Nat} {p:Addr},PlAt H ps cs→ps[i]? = some p→∃ c,cs[i]? = some c∧H p = some (.tup [.int c.1,.int c.2])
 | _,_,0,_,.cons r _,h => by cases h; exact ⟨_,rfl,r⟩
 | _,_,i + 1,_,.cons _ t,h => PlAt.at (i:=i) t (by simpa using h)
theorem getR {ps:List Addr} {i:Nat} {x:V} (h:(ps.map V.ref)[i]? = some x):∃ p,ps[i]? = some p∧x = .ref p:=by
 rw [List.getElem?_map] at h
 cases e:ps[i]? with
 | none => rw [e] at h; cases h
 | some p => rw [e] at h; exact ⟨p,rfl,(Option.some.inj h).symm⟩
theorem cutR (ps:List Addr):cutV (ps.map V.ref) (some 1) none = (ps.drop 1).map V.ref:=by
 have e1:HT.sIx (ps.map V.ref).length 0 (some 1) = min 1 (ps.map V.ref).length:=HT.sIx_nat _ _ 1
 have e2:HT.sIx (ps.map V.ref).length (ps.map V.ref).length none = (ps.map V.ref).length:=rfl
 unfold cutV
 rw [e1,e2,List.length_map]
 cases ps with
 | nil => rfl
 | cons p ps =>
  rw [show min 1 (p :: ps).length = 1 by rw [List.length_cons]; omega,← List.map_drop,List.take_of_length_le (by rw [List.length_map,List.length_drop]; omega)]
end L2
namespace L2
open PySem PySem.Spec PyProof.Rows Grd Wlk
section
variable {X:Cx} {es:List Expr} {te:TE} {t:TA}
theorem pq_v {x pos} (he:PE X (.Name x pos) te) (hr:PAq X es t):PAq X (.Name x pos :: es) (tCons te t):=by unfold PAq at *; exact pa_v he hr
end
noncomputable abbrev PlA (H:Hp) (p:Addr) (c:Int × Int):Prop:=H p = some (.tup [.int c.1,.int c.2])
theorem PlA.put {H:Hp} {l:Addr} {xs ys:List V} (hl:H l = some (.lst xs)) {p:Addr} {c:Int × Int} (h:PlA H p c):PlA (upd H l (.lst ys)) p c:=by
 have h':H p = some (.tup [.int c.1,.int c.2]):=h
 show upd H l (.lst ys) p = _
 rw [upd_ne (fun z => by rw [z,hl] at h'; cases h')]; exact h
theorem tupPut {H:Hp} {l q:Addr} {xs ys us:List V} (hl:H l = some (.lst xs)) (h:H q = some (.tup us)):upd H l (.lst ys) q = some (.tup us):=by
 rw [upd_ne (fun z => by rw [z,hl] at h; cases h)]; exact h
theorem retLst {t:TA} {D:Ends} {σ:St} {H:Hp} (h:t σ H fun xs H1 => xs.length ≤ sizeLine∧∀ p,H1 p = none→D.rt (.ref p) (upd H1 p (.lst xs))):tRet (tLst t) D σ H:=h
end L2
namespace L2
open PySem PySem.Spec PyProof.Rows Grd Wlk
theorem hu1_of {A:Around} {k:Nat} (hr:Room k A):A.units + 1 + 1 < cLine:=Nat.lt_of_le_of_lt (Nat.add_le_add_left (by decide:2 ≤ 64) _) hr.units
theorem eqPl {H:Hp} {p q:Addr} {c d:Int × Int} (h1:PlA H p c) (h2:PlA H q d) (n:Nat):EqD H (n + 1) (.ref p) (.ref q) (decide (c = d)):=by
 refine .inr ⟨p,q,_,_,[decide (c.1 = d.1),decide (c.2 = d.2)],rfl,rfl,.inl ⟨h1,h2⟩,⟨EqD.int _ _ _,EqD.int _ _ _,trivial⟩,?_⟩
 rw [Bool.eq_iff_iff]
 simp [Prod.ext_iff]
theorem e3Pl {H:Hp} {q:Addr} {d:Int × Int} (h:PlA H q d):∀ {ps:List Addr} {cs:List (Int × Int)},PlAt H ps cs→E3 (EqD H 1) (ps.map V.ref) ((ps.map V.ref).map fun _ => V.ref q) (cs.map fun c => decide (c = d))
 | [],[],.nil => trivial
 | _ :: _,_ :: _,.cons r t => ⟨eqPl r h 0,e3Pl h t⟩
theorem any_eq {α:Type} [DecidableEq α] (l:List α) (x:α):(l.map fun c => decide (c = x)).any id = decide (x ∈ l):=by
 rw [Bool.eq_iff_iff,List.any_map]
 simp
end L2
namespace Wlk
open PySem PyProof.Rows Srt
noncomputable abbrev f2 (s:WStep):List Int:=fl [s.1,s.2]
end Wlk
namespace Wlk
open PySem PyProof.Rows Srt Cyc Grd
noncomputable def rc (s:WStep):Pl:=if s.2.2 = s.1.2 + 1 then s.1 else if s.2.1 = s.1.1 + 1 then (s.1.1,s.1.2 - 1) else if s.2.2 = s.1.2 - 1 then (s.1.1 - 1,s.1.2 - 1) else (s.1.1 - 1,s.1.2)
theorem lex_irr' (x:List Int):HT.lexLt x x = false:=lex_irr x
theorem up_nd {cs:List Pl} (h:cs.Pairwise ltP):cs.Nodup:=by
 rw [List.nodup_iff_pairwise_ne]
 refine h.imp fun {a b} hab e => ?_
 subst e
 unfold ltP at hab
 rw [lex_irr'] at hab; cases hab
section
variable {land:List Pl} {ss:List WStep}
noncomputable def gone (ss:List WStep):List (List WStep) × List WStep:=ss.foldl (stF (orb (nxt ss))) ([],[])
end
end Wlk
namespace Wlk
open PySem PyProof.Rows Srt Cyc Grd
section
variable {land:List Pl} {ss:List WStep}
end
noncomputable def eC (land:List Pl) (x y:Int) (c:Pl):Nat:=(if c.1 = x∧c.2 + 1 ≤ y∧(c.1,c.2 + 1) ∉ land then 1 else 0) + (if c.1 = x∧c.2 ≤ y∧(c.1,c.2 - 1) ∉ land then 1 else 0)
noncomputable def turn (s:WStep):Int:=s.1.1 * s.2.2 - s.2.1 * s.1.2
end Wlk
namespace Wlk
open PySem PyProof.Rows Srt Cyc Grd
noncomputable def beside (c:Pl):List Pl:=[(c.1 - 1,c.2),(c.1,c.2 - 1),(c.1,c.2 + 1),(c.1 + 1,c.2)]
theorem beside_sym {c d:Pl} (h:d ∈ beside c):c ∈ beside d:=by
 obtain ⟨a,b⟩:=c
 unfold beside at h ⊢
 simp only [List.mem_cons,List.not_mem_nil,or_false] at h ⊢
 rcases h with rfl | rfl | rfl | rfl
 ·right; right; right; simp
 ·right; right; left; simp
 ·right; left; simp
 ·left; simp
noncomputable def Closed (land P:List Pl):Prop:=∀ x ∈ P,∀ y ∈ beside x,y ∈ land→y ∈ P
structure Piece (land:List Pl) (s:Pl) (P:List Pl):Prop where
 sub:∀ x ∈ P,x ∈ land
 st:s ∈ P
 cl:Closed land P
 min:∀ C,Closed land C→(∃ x ∈ P,x ∈ C)→s ∈ C
 up:P.Pairwise ltP
end Wlk
namespace Wlk
open PySem PyProof.Rows Srt Cyc Grd
noncomputable def nb (land R:List Pl) (x:Pl):List Pl:=(beside x).filter fun y => decide (y ∈ land) && !decide (y ∈ R)
structure Rch (land:List Pl) (s:Pl) (R:List Pl) (k:Nat):Prop where
 sub:∀ x ∈ R,x ∈ land
 nd:R.Nodup
 st:s ∈ R
 done:∀ i x,i < k→R[i]? = some x→∀ y ∈ beside x,y ∈ land→y ∈ R
 min:∀ C,Closed land C→∀ x ∈ R,x ∈ C→s ∈ C
 le:k ≤ R.length
theorem beside_nd (x:Pl):(beside x).Nodup:=by
 obtain ⟨a,b⟩:=x
 unfold beside
 simp only [List.nodup_cons,List.mem_cons,List.not_mem_nil,or_false,Prod.mk.injEq,not_or,not_false_eq_true,List.nodup_nil,and_true]
 omega
theorem mem_nb {land R:List Pl} {x y:Pl}:y ∈ nb land R x ↔ y ∈ beside x∧y ∈ land∧y ∉ R:=by
 unfold nb
 rw [List.mem_filter]
 simp
theorem Rch.start {land:List Pl} {s:Pl} (h:s ∈ land):Rch land s [s] 0 :=
 ⟨fun x hx => by rw [List.mem_singleton.mp hx]; exact h,by simp,List.mem_cons_self,fun i _ hi => absurd hi (Nat.not_lt_zero i),fun C _ x hx hC => by rw [List.mem_singleton.mp hx] at hC; exact hC,Nat.zero_le _⟩
theorem Rch.step {land R:List Pl} {s x:Pl} {k:Nat} (h:Rch land s R k) (hx:R[k]? = some x):Rch land s (R ++ nb land R x) (k + 1):=by
 have hk:k < R.length:=(List.getElem?_eq_some_iff.mp hx).1
 refine ⟨fun y hy => ?_,?_,List.mem_append_left _ h.st,fun i y hi hy z hz hzl => ?_,fun C hC y hy hyC => ?_,by rw [List.length_append]; omega⟩
 ·rcases List.mem_append.mp hy with e | e
  ·exact h.sub y e
  ·exact (mem_nb.mp e).2.1
 ·rw [List.nodup_append]
  refine ⟨h.nd,(beside_nd x).sublist List.filter_sublist,fun a ha b hb e => ?_⟩
  subst e
  exact (mem_nb.mp hb).2.2 ha
 ·rw [List.getElem?_append_left (by omega)] at hy
  by_cases e:z ∈ R
  ·exact List.mem_append_left _ e
  ·rcases Nat.lt_or_ge i k with u | u
   ·exact absurd (h.done i y u hy z hz hzl) e
   ·have:i = k:=by omega
    rw [this,hx] at hy
    cases hy
    exact List.mem_append_right _ (mem_nb.mpr ⟨hz,hzl,e⟩)
 ·rcases List.mem_append.mp hy with e | e
  ·exact h.min C hC y e hyC
  ·have hxR:=List.mem_of_getElem? hx
   exact h.min C hC x hxR (hC y hyC x (beside_sym (mem_nb.mp e).1) (h.sub x hxR))
theorem Rch.len {land R:List Pl} {s:Pl} {k:Nat} (h:Rch land s R k):R.length ≤ land.length:=sub_len h.nd h.sub
theorem Rch.fin {land R P:List Pl} {s:Pl} {k:Nat} (h:Rch land s R k) (hk:R.length ≤ k) (hp:P.Perm R) (hs:P.Pairwise fun a b => HT.lexLt [b.1,b.2] [a.1,a.2] = false):Piece land s P:=by
 refine ⟨fun x hx => h.sub x (hp.mem_iff.mp hx),hp.mem_iff.mpr h.st,fun x hx y hy hl => ?_,fun C hC ⟨x,hx,hxC⟩ => h.min C hC x (hp.mem_iff.mp hx) hxC,?_⟩
 ·obtain ⟨i,hi,e⟩:=List.mem_iff_getElem.mp (hp.mem_iff.mp hx)
  exact hp.mem_iff.mpr (h.done i x (by omega) (List.getElem?_eq_some_iff.mpr ⟨hi,e⟩) y hy hl)
 ·have hnd:P.Nodup:=hp.nodup_iff.mpr h.nd
  refine (hs.and (List.nodup_iff_pairwise_ne.mp hnd)).imp fun {a b} z => ?_
  unfold ltP
  cases e:HT.lexLt [a.1,a.2] [b.1,b.2] with
  | true => rfl
  | false =>
   have:=lex_tot e z.1
   refine absurd ?_ z.2
   obtain ⟨a1,a2⟩:=a
   obtain ⟨b1,b2⟩:=b
   simp only [List.cons.injEq,and_true] at this
   rw [this.1,this.2]
end Wlk
namespace M43
open PySem L2 PyProof.Rows Grd Wlk Cyc Srt
noncomputable abbrev sBeside:Stmt:=top 26
noncomputable def spBeside:Sp:=fun vs H Q _ => ∃ p c,vs = [.ref p]∧PlA H p c∧∀ l qs H',H l = none→Same H H'→H' l = some (.lst ((qs:List Addr).map V.ref))→PlAt H' qs (beside c)→Q (.ref l) H'
section
variable {P:Program} {w:World} {K:PySem.W.Frag} {mg:Str→Option Value} {base:Heap}
noncomputable abbrev nBs:List Str:=["place","row","column"]
theorem scBeside:FnScope nBs ["place"] (defScope sBeside):=⟨rfl,rfl,rfl,by decide +kernel,rfl,by decide +kernel,by decide +kernel⟩
theorem ok_beside {f:Addr} {fd:FuncData} (F:Fun K "places_beside" "places_beside" sBeside f fd):FnOk P w K mg base CX0 1 f fd ["place"] spBeside:=by
 refine F.ok scBeside (fun vs H Q E h => ?_) (fun cdv A outer s H vs Q E hr h => ?_)
 ·obtain ⟨p,c,rfl,_⟩:=h; rfl
 ·obtain ⟨p,c,rfl,hp,q⟩:=h
  have nd:=scBeside.nd
  refine ⟨_,pss_cons2q (ps_asg (pv 0) (pg_tup rfl (pgs_cons (pg_name (i:=1) nd rfl (Or.inl rfl)) (pgs_cons (pg_name (i:=2) nd rfl (Or.inl rfl)) pgs_nil)))) <|
   retE (lstq (pq_tq (tupq (pq_b (pe_op op_sub (pv 1) pe_int) (pq_v (pv 2) pq_nil))) (pq_tq (tupq (pq_v (pv 1) (pq_b (pe_op op_sub (pv 2) pe_int) pq_nil))) (pq_tq (tupq (pq_v (pv 1) (pq_b (pe_op op_add (pv 2) pe_int) pq_nil))) (pq_tq (tupq (pq_b (pe_op op_add (pv 1) pe_int) (pq_v (pv 2) pq_nil))) pq_nil))))),?_⟩
  refine ⟨_,rfl,p,_,rfl,SqT.of hp,rfl,_,_,rfl,_,_,rfl,rfl,?_⟩
  dsimp only
  refine retLst ?_
  refine ⟨_,rfl,_,_,rfl,rfl,_,rfl,by show 2 ≤ sizeLine; decide,fun p1 h1 => ?_⟩
  have s1:=same_upd (o:=.tup [.int (c.1 - 1),.int c.2]) h1
  refine ⟨_,rfl,_,rfl,_,_,rfl,rfl,by show 2 ≤ sizeLine; decide,fun p2 h2 => ?_⟩
  have s2:=same_upd (o:=.tup [.int c.1,.int (c.2 - 1)]) h2
  refine ⟨_,rfl,_,rfl,_,_,rfl,rfl,by show 2 ≤ sizeLine; decide,fun p3 h3 => ?_⟩
  have s3:=same_upd (o:=.tup [.int c.1,.int (c.2 + 1)]) h3
  refine ⟨_,rfl,_,_,rfl,rfl,_,rfl,by show 2 ≤ sizeLine; decide,fun p4 h4 => ?_⟩
  have s4:=same_upd (o:=.tup [.int (c.1 + 1),.int c.2]) h4
  refine ⟨by show 4 ≤ sizeLine; decide,fun l hl => ?_⟩
  have s5:=same_upd (o:=.lst [.ref p1,.ref p2,.ref p3,.ref p4]) hl
  have s14:=((s1.trans s2).trans s3).trans s4
  exact q l [p1,p2,p3,p4] _ (s14.free hl) (s14.trans s5) upd_same (.cons (s5 _ _ (s4 _ _ (s3 _ _ (s2 _ _ upd_same)))) (.cons (s5 _ _ (s4 _ _ (s3 _ _ upd_same))) (.cons (s5 _ _ (s4 _ _ upd_same)) (.cons (s5 _ _ upd_same) .nil))))
end
theorem pl_app {H:Hp} {ps qs:List Addr} {cs ds:List (Int × Int)} (h:PlAt H ps cs) (h':PlAt H qs ds):PlAt H (ps ++ qs) (cs ++ ds):=by
 induction h with
 | nil => exact h'
 | cons r t ih => exact .cons r ih
theorem LandOf.len {g:Grid} {w:Nat} {cs:List (Int × Int)} (G:Good g w) (h:LandOf g cs):cs.length ≤ 10:=by
 have:=List.Sublist.length_le h
 rw [len_cells] at this
 have:=G.c10
 omega
noncomputable def WkP (H:Hp) (ws:List Addr) (o:List (List Pl)):Prop:=Paired (SqA H) ws o
noncomputable def WkL (H:Hp) (l:Addr) (o:List (List Pl)):Prop:=∃ ws:List Addr,H l = some (.lst (ws.map V.ref))∧WkP H ws o
theorem sqPut {H:Hp} {l:Addr} {xs ys:List V} (hl:H l = some (.lst xs)) {a:Addr} {cs:List Pl} (h:SqA H a cs):SqA (upd H l (.lst ys)) a cs:=let ⟨ps,h1,h2⟩:=h; ⟨ps,tupPut hl h1,Paired.mapP h2 fun _ _ z => PlA.put hl z⟩
theorem WkP.at {H:Hp}:∀ {ws:List Addr} {o:List (List Pl)} {i:Nat} {q:Addr},WkP H ws o→ws[i]? = some q→∃ c,o[i]? = some c∧SqA H q c
 | _,_,0,_,.cons r _,h => by cases h; exact ⟨_,rfl,r⟩
 | _,_,i + 1,_,.cons _ t,h => WkP.at (i:=i) t (by simpa using h)
noncomputable def unP (l:List Int):Pl:=(l.getD 0 0,l.getD 1 0)
theorem srt_pl {X:Cx} {H:Hp} {l:Addr} {qs:List Addr} {R:List Pl} {Q:VK} (hl:H l = some (.lst (qs.map V.ref))) (hP:PlAt H qs R) (h40:R.length ≤ 40) (q:∀ l9 qs' R' H',H l9 = none→Same H H'→H' l9 = some (.lst ((qs':List Addr).map V.ref))→PlAt H' qs' R'→R'.Perm R→R'.Pairwise (fun a b => HT.lexLt [b.1,b.2] [a.1,a.2] = false)→Q (.ref l9) H') :
  ∃ (p:Addr) (zs:List (Addr × List Int)),[V.ref l] = [.ref p]∧SqL X.K H p (zs.map fun z => V.ref z.1)∧(∀ z ∈ zs,H z.1 = some (.tup (z.2.map V.int))∧z.2 ≠ [])∧zs.length < 64∧∀ l zs',H l = none→Sorted2 zs zs'→Q (.ref l) (upd H l (.lst (zs'.map fun z => V.ref z.1))):=by
 have hzz:∀ {qs:List Addr} {R:List Pl},PlAt H qs R→∃ zs:List (Addr × List Int),(zs.map fun z => z.1) = qs∧(zs.map fun z => z.2) = R.map (fun s => [s.1,s.2])∧∀ z ∈ zs,H z.1 = some (.tup (z.2.map V.int))∧z.2 ≠ []:=fun {qs R} h => by
  induction h with
  | nil => exact ⟨[],rfl,rfl,fun z hz => by cases hz⟩
  | cons r t ih =>
   rename_i q s _ _
   obtain ⟨zs,i1,i2,i3⟩:=ih
   refine ⟨(q,[s.1,s.2]) :: zs,by rw [List.map_cons,i1],by rw [List.map_cons,i2]; rfl,fun z hz => ?_⟩
   rcases List.mem_cons.mp hz with e | e
   ·rw [e]; exact ⟨r,by simp⟩
   ·exact i3 z e
 obtain ⟨zs,i1,i2,i3⟩:=hzz hP
 have un:∀ z ∈ zs,∃ s:Pl,z.2 = [s.1,s.2]∧unP z.2 = s:=fun z hz => by
  have e2:z.2 ∈ zs.map fun z => z.2:=List.mem_map.mpr ⟨z,hz,rfl⟩
  rw [i2] at e2
  obtain ⟨s,_,es⟩:=List.mem_map.mp e2
  exact ⟨s,es.symm,by rw [← es]; rfl⟩
 have hzl:zs.length ≤ 40:=by
  have h1:=congrArg List.length i2
  rw [List.length_map,List.length_map] at h1
  omega
 refine ⟨l,zs,rfl,SqL.of (by rw [hl,← i1,List.map_map]; rfl),i3,by omega,fun l9 zs' hl9 so => ?_⟩
 have s9:=same_upd (o:=.lst (zs'.map fun z => V.ref z.1)) hl9
 refine q l9 (zs'.map fun z => z.1) (zs'.map fun z => unP z.2) _ hl9 s9 (by rw [upd_same,List.map_map]; rfl) ?_ ?_ ?_
 ·have key:∀ ys:List (Addr × List Int),(∀ z ∈ ys,z ∈ zs)→PlAt (upd H l9 (.lst (zs'.map fun z => V.ref z.1))) (ys.map fun z => z.1) (ys.map fun z => unP z.2):=fun ys => by
   induction ys with
   | nil => intro _; exact .nil
   | cons z ys ih =>
    intro hm
    refine .cons ?_ (ih fun y hy => hm y (List.mem_cons_of_mem _ hy))
    have hz:=hm z List.mem_cons_self
    obtain ⟨s,e1,e2⟩:=un z hz
    show PlA _ z.1 (unP z.2)
    rw [e2]
    have:=(i3 z hz).1
    rw [e1] at this
    exact s9 _ _ this
  exact key zs' fun z hz => so.1.mem_iff.mp hz
 ·have h1:=(so.1.map fun z => z.2).map unP
  rw [i2,List.map_map,List.map_map] at h1
  refine h1.trans (List.Perm.of_eq ?_)
  have:(unP ∘ fun s:Pl => [s.1,s.2]) = id:=rfl
  rw [this,List.map_id]
 ·rw [List.pairwise_map]
  refine so.2.imp_of_mem fun {a b} ha hb hab => ?_
  obtain ⟨s,e1,e2⟩:=un a (so.1.mem_iff.mp ha)
  obtain ⟨s',e1',e2'⟩:=un b (so.1.mem_iff.mp hb)
  rw [e1,e1'] at hab
  rw [e2,e2']
  exact hab
noncomputable abbrev sPieceR:Stmt:=top 30
noncomputable abbrev sPieces:Stmt:=top 31
noncomputable def spPieceR:Sp:=fun vs H Q _ => ∃ t p cs c,vs = [.ref t,.ref p]∧SqA H t cs∧cs.length ≤ 10∧PlA H p c∧c ∈ cs∧∀ t' P H',Same H H'→SqA H' t' P→Piece cs c P→Q (.ref t') H'
section
variable {P:Program} {w:World} {K:PySem.W.Frag} {mg:Str→Option Value} {base:Heap}
noncomputable abbrev nPr:List Str:=["land","start","reached","at","beside"]
theorem scPieceR:FnScope nPr ["land","start"] (defScope sPieceR):=⟨rfl,rfl,rfl,by decide +kernel,rfl,by decide +kernel,by decide +kernel⟩
theorem ndPr:(["place","land","reached"]:List Str).Nodup:=by decide +kernel
theorem ok_pieceR {f g1:Addr} {fd d1:FuncData} (F:Fun K "piece_round" "piece_round" sPieceR f fd) (T:Txt mg) (T2:Txt2 mg) (a1:At P w K mg base CX0 1 "places_beside" g1 d1 ["place"] spBeside):FnOk P w K mg base CX0 2 f fd ["land","start"] spPieceR:=by
  refine F.ok scPieceR (fun vs H Q E h => ?_) (fun cdv A outer s H vs Q E hr h => ?_)
  · obtain ⟨t,p,cs,c,rfl,_⟩:=h; rfl
  · obtain ⟨t,pa,cs,c,rfl,hT,h10,hp,hc,q⟩:=h
    have nd:=scPieceR.nd
    refine ⟨_,pss_cons (ps_set (i:=2) nd rfl (Or.inr rfl) (pe_lst (pa_v (pv 1) pa_nil))) <|
      pss_cons (ps_set (i:=3) nd rfl (Or.inl rfl) pe_int) <|
      pss_cons (ps_while PassesOwn.never (pt_cmpR op_lt (pv 3) (pe_callB call_len_seq rfl T.len PySem.boot_len (pa_v (pv 2) pa_nil)) (nomark _))
        (pss_cons (ps_set (i:=4) nd rfl (Or.inl rfl) (pe_call a1.ok hr rfl a1.nm a1.kp a1.bd .nil pass0 (pa_s (pe_ix ix_list (pv 2) (pv 3) (fun _ _ => rfl)) pa_nil))) <|
         pss_cons (ps_expr (pe_bm PySem.F.plainAttrs_list PySem.F.slot_list_extend PySem.F.type_list_extend mt_extend (pv 2) (pa_lc (pe_comp1 (defScope sPieceR).names nPr ["place"] [("land",0),("reached",2)] rfl (pi_list (pv 4)) rfl rfl rfl (by decide +kernel)
            (fun Z => pg_name (i:=0) ndPr rfl (Or.inl rfl)) (fun Z => pts_one (PW.pt (pw_and (pt_cmpR (op_inD 1 (hu1_of hr)) (pv 0) (pv 1) rfl) (pw_and1 (pt_cmpR (op_notInD 1 (hu1_of hr)) (pv 0) (pv 2) rfl))))) (fun Z => pv 0)) pa_nil))) <|
         pss_one (ps_aug (i:=3) nd rfl (Or.inl rfl) pe_int ip_add))) <|
      pss_one (ps_ret (pe_callTy call_tuple_of rfl T.tuple boot_tuple (pa_k (pe_callB call_sortedT rfl T2.sorted boot_sorted (pa_v (pv 2) pa_nil)) pa_nil))),?_⟩
    obtain ⟨ts,ht,hP⟩:=hT
    refine ⟨_,rfl,by show 1 ≤ sizeLine; decide,fun lr hlr => ?_⟩
    have s0:=same_upd (o:=.lst [.ref pa]) hlr
    refine ⟨fun m σ H' => ∃ k o qs R,m + k = 10∧σ = [some (.ref t),some (.ref pa),some (.ref lr),some (.int (k:Nat)),o]∧Same H H'∧H' lr = some (.lst ((qs:List Addr).map V.ref))∧PlAt H' qs R∧Rch cs c R k,
      ⟨10,0,_,[pa],[c],rfl,rfl,s0,upd_same,.cons (s0 _ _ hp) .nil,Rch.start hc⟩,?_⟩
    rintro m σ H' ⟨k,o,qs,R,hm,rfl,hs,hlr',hR,rc⟩
    have hqR:qs.length = R.length:=Paired.length hR
    have hRl:=rc.len
    refine ⟨_,rfl,_,rfl,lr,_,rfl,.inl (SqL.of hlr'),_,_,rfl,rfl,_,rfl,ite2d (fun z => ?_) fun z => ?_⟩
    · rw [List.length_map,hqR] at z
      have hk:k < R.length:=by omega
      have hkq:k < qs.length:=by omega
      have hqk:qs[k]? = some (qs[k]):=List.getElem?_eq_getElem hkq
      obtain ⟨x,hx,he⟩:=hR.at hqk
      refine ⟨fun σ' H2 => ∃ o qs' ,σ' = [some (.ref t),some (.ref pa),some (.ref lr),some (.int ((k + 1:Nat):Int)),o]∧Same H H2∧H2 lr = some (.lst ((qs':List Addr).map V.ref))∧PlAt H2 qs' (R ++ nb cs R x),
        fun σ' H2 ⟨o,qs',h1,h2,h3,h4⟩ => ⟨m - 1,by omega,k + 1,o,qs',_,by omega,h1,h2,h3,h4,rc.step hx⟩,?_⟩
      refine ⟨_,rfl,_,rfl,lr,_,_,_,rfl,rfl,SqL.of hlr',atI_nat (v:=V.ref qs[k]) (by rw [List.getElem?_map,hqk]; rfl),?_⟩
      refine ⟨qs[k],x,rfl,he,fun lb bs H2 hlb s2 hlb2 hB => ?_⟩
      have hR2:=hR.same s2
      have hlr2:=s2 _ _ hlr'
      have hP2:=(hP.same hs).same s2
      have ht2:=s2 _ _ (hs _ _ ht)
      have hb4:bs.length = 4:=Paired.length hB
      refine ⟨_,rfl,.inl ⟨rfl,_,SqL.of hlr2⟩,?_⟩
      refine ⟨_,rfl,lb,rfl,⟨_,SqL.of hlb2⟩,fun Z ln hln => ?_⟩
      refine for_list (K:=K) (a:=lb) (xs:=bs.map V.ref) (fun j σ H3 => (∃ o,σ = [o,some (.ref t),some (.ref lr)])∧Same H2 H3∧∃ ns,H3 ln = some (.lst ((ns:List Addr).map V.ref))∧PlAt H3 ns (((beside x).take j).filter fun y => decide (y ∈ cs) && !decide (y ∈ R)))
        ⟨⟨_,rfl⟩,same_upd hln,[],by rw [upd_same]; rfl,.nil⟩ (fun j σ H3 _ h => SqL.of (h.2.1 _ _ hlb2)) ?_ ?_
      · rintro j y σ H3 hy ⟨⟨o',rfl⟩,hs3,ns,hn,hN⟩
        obtain ⟨b,hbj,rfl⟩:=getR hy
        obtain ⟨d,hd,hbd⟩:=hB.at hbj
        have hj:j < 4:=(List.getElem?_eq_some_iff.mp hd).1
        have hbd3:=hs3 _ _ hbd
        have hnl:ns.length ≤ 4:=by
          have h1:ns.length = _:=Paired.length hN
          have h2:=List.length_filter_le (fun y => decide (y ∈ cs) && !decide (y ∈ R)) ((beside x).take j)
          rw [List.length_take] at h2; omega
        have et:((beside x).take (j + 1)).filter (fun y => decide (y ∈ cs) && !decide (y ∈ R)) = ((beside x).take j).filter (fun y => decide (y ∈ cs) && !decide (y ∈ R)) ++ (if (decide (d ∈ cs) && !decide (d ∈ R)) = true then [d] else []):=by
          rw [List.take_succ,hd,List.filter_append]
          congr 1
          cases e:(decide (d ∈ cs) && !decide (d ∈ R))
          · simp [e]
          · simp [e]
        rw [et]
        show tBodyC _ _ _ [some (.ref b),some (.ref t),some (.ref lr)] H3
        refine ⟨_,rfl,_,rfl,t,_,_,rfl,.inl (hs3 _ _ ht2),e3Pl hbd3 (hP2.same hs3),_,rfl,?_⟩
        rw [any_eq]
        refine iteB (fun z1' => ?_) fun z1' => ?_
        · have z1:d ∈ cs:=by simpa using z1'
          refine ⟨_,rfl,_,rfl,lr,_,_,rfl,.inr (hs3 _ _ hlr2),e3Pl hbd3 (hR2.same hs3),_,rfl,?_⟩
          rw [any_eq]
          refine iteB (fun z2' => ?_) fun z2' => ?_
          · have z2:d ∉ R:=by simpa using z2'
            rw [if_pos (by rw [decide_eq_true z1,decide_eq_false z2]; rfl)]
            refine ⟨_,rfl,_,hn,small1000 (by rw [List.length_map]; omega),⟨_,rfl⟩,fun b' u e' => ?_,ns ++ [b],?_,?_⟩
            · rw [upd_ne (ne_of_none e' hln)]; exact hs3 _ _ e'
            · rw [upd_same,List.map_append]; rfl
            · exact PlAt.snoc (Paired.mapP hN fun _ _ z => PlA.put hn z) (PlA.put hn hbd3)
          · have z2:d ∈ R:=by simpa using z2'
            rw [if_neg (by rw [decide_eq_true z2]; simp),List.append_nil]
            exact ⟨⟨_,rfl⟩,hs3,ns,hn,hN⟩
        · have z1:d ∉ cs:=by simpa using z1'
          rw [if_neg (by rw [decide_eq_false z1]; simp),List.append_nil]
          exact ⟨⟨_,rfl⟩,hs3,ns,hn,hN⟩
      · rintro σ H3 ⟨⟨o',rfl⟩,hs3,ns,hn,hN⟩
        rw [List.length_map,hb4] at hN
        have hN':PlAt H3 ns (nb cs R x):=hN
        have hnl:ns.length ≤ 4:=by
          have h1:ns.length = (nb cs R x).length:=Paired.length hN'
          have h2:(nb cs R x).length ≤ (beside x).length:=List.length_filter_le _ _
          have h3:(beside x).length = 4:=rfl
          omega
        have hlr3:=hs3 _ _ hlr2
        refine ⟨lr,ln,_,_,rfl,rfl,hlr3,hn,by rw [List.length_map,List.length_map,sizeLine_eq]; omega,?_⟩
        refine ⟨_,rfl,_,_,rfl,rfl,⟨_,qs ++ ns,rfl,fun b' u e' => ?_,by rw [upd_same,List.map_append],?_⟩⟩
        · rw [upd_ne (ne_of_none e' hlr)]; exact hs3 _ _ (s2 _ _ (hs _ _ e'))
        · exact pl_app (Paired.mapP (hR2.same hs3) fun _ _ z => PlA.put hlr3 z) (Paired.mapP hN' fun _ _ z => PlA.put hlr3 z)
    · rw [List.length_map,hqR] at z
      refine ⟨_,rfl,?_⟩
      refine srt_pl (X:=(cxOf CX0 P w K mg base nPr (Str.ofString "piece_round") (defScope sPieceR) f cdv A outer s H E).nox) (Q:=fun v H1 => ∃ p ys,[v] = [V.ref p]∧((SqL K H1 p ys∧∀ l,H1 l = none→Q (.ref l) (upd H1 l (.tup ys))) ∨ (SqT K H1 p ys∧Q (.ref p) H1))) hlr' hR (by omega) fun l9 qs' R' H9 h9 s9 hl9 hR9 pm up => ?_
      refine ⟨l9,_,rfl,.inl ⟨SqL.of hl9,fun t' ht' => ?_⟩⟩
      have s10:=same_upd (o:=.tup (qs'.map V.ref)) ht'
      exact q t' R' _ ((hs.trans s9).trans s10) ⟨qs',upd_same,hR9.same s10⟩ (rc.fin (by omega) pm up)
end
end M43
namespace M43
open PySem L2 PyProof.Rows Grd Wlk Srt
noncomputable abbrev sRising:Stmt:=top 10
noncomputable abbrev sIsLand:Stmt:=top 28
noncomputable abbrev sChkLand:Stmt:=top 29
noncomputable def upP (cs:List Pl):Bool:=decide (cs.Pairwise fun c d => HT.lexLt [c.1,c.2] [d.1,d.2] = true)
noncomputable def plsOf (H:Hp) (xs:List V):List Pl:=xs.filterMap (placeOf H)
noncomputable def landV (H:Hp) (g:Grid) (v:V):Bool:=match tupOf H v with
 | some xs => xs.all (isCell H g) && upP (plsOf H xs)
 | none => false
theorem place_at {H:Hp} {v:V} {c:Pl} (h:placeOf H v = some c):∃ p,v = .ref p∧PlA H p c:=by
 unfold placeOf at h
 split at h
 ·rename_i r2 c2 hz
  injection h with h
  subst h
  obtain ⟨p,rfl,hp⟩:=of_tupOf hz
  exact ⟨p,rfl,hp⟩
 ·cases h
theorem of_place {H:Hp} {p:Addr} {c:Pl} (h:PlA H p c):placeOf H (.ref p) = some c:=by unfold placeOf; rw [tupOf_of h]
theorem cells_pl {H:Hp} {g:Grid}:∀ {xs:List V},xs.all (isCell H g) = true→∃ ps:List Addr,xs = ps.map V.ref∧PlAt H ps (plsOf H xs)∧∀ c ∈ plsOf H xs,c ∈ gridF pos g
 | [],_ => ⟨[],rfl,.nil,fun c hc => by cases hc⟩
 | x :: xs,h => by
  rw [List.all_cons,Bool.and_eq_true] at h
  obtain ⟨ps,e,hP,hc⟩:=cells_pl h.2
  have h1:=h.1
  unfold isCell at h1
  cases z:placeOf H x with
  | none => rw [z] at h1; cases h1
  | some c =>
   rw [z] at h1
   obtain ⟨p,rfl,hp⟩:=place_at z
   have e2:plsOf H (.ref p :: xs) = c :: plsOf H xs:=by unfold plsOf; rw [List.filterMap_cons,z]
   rw [e2]
   refine ⟨p :: ps,by rw [e]; rfl,.cons hp hP,fun d hd => ?_⟩
   rcases List.mem_cons.mp hd with rfl | hd
   ·exact of_decide_eq_true h1
   ·exact hc d hd
theorem up_land {g:Grid} {cs:List Pl} (hm:∀ c ∈ cs,c ∈ gridF pos g) (hu:cs.Pairwise ltP):LandOf g cs:=by
 have key:∀ (L cs:List Pl),L.Pairwise ltP→cs.Pairwise ltP→(∀ c ∈ cs,c ∈ L)→cs.Sublist L:=by
  intro L
  induction L with
  | nil => intro cs _ _ h; cases cs with | nil => exact .slnil | cons c _ => exact absurd (h c List.mem_cons_self) (by simp)
  | cons d L ih =>
   intro cs hL hc h
   rw [List.pairwise_cons] at hL
   cases cs with
   | nil => exact List.nil_sublist _
   | cons c cs =>
    rw [List.pairwise_cons] at hc
    have irr:∀ a:Pl,¬ ltP a a:=fun a z => by unfold ltP at z; rw [lex_irr] at z; cases z
    have tr:∀ a b e:Pl,ltP a b→ltP b e→ltP a e:=fun a b e h1 h2 => lex_tr h1 h2
    by_cases e:c = d
    ·subst e
     refine .cons₂ _ (ih cs hL.2 hc.2 fun x hx => ?_)
     rcases List.mem_cons.mp (h x (List.mem_cons_of_mem _ hx)) with z | z
     ·subst z; exact absurd (hc.1 x hx) (irr x)
     ·exact z
    ·refine .cons _ (ih (c :: cs) hL.2 (List.pairwise_cons.mpr hc) fun x hx => ?_)
     have hcL:c ∈ L:=by
      rcases List.mem_cons.mp (h c List.mem_cons_self) with z | z
      ·exact absurd z e
      ·exact z
     rcases List.mem_cons.mp (h x hx) with z | z
     ·subst z
      rcases List.mem_cons.mp hx with y | y
      ·exact absurd y.symm e
      ·exact absurd (tr _ _ _ (hL.1 c hcL) (hc.1 x y)) (irr x)
     ·exact z
 exact key _ _ (gridF_up pos g) hu hm
theorem land_of {H:Hp} {g:Grid} {v:V} (h:landV H g v = true):∃ t cs,v = .ref t∧SqA H t cs∧LandOf g cs:=by
 unfold landV at h
 cases z:tupOf H v with
 | none => rw [z] at h; cases h
 | some xs =>
  rw [z] at h
  rw [Bool.and_eq_true] at h
  obtain ⟨t,rfl,ht⟩:=of_tupOf z
  obtain ⟨ps,e,hP,hc⟩:=cells_pl h.1
  rw [e] at ht
  have hu:(plsOf H xs).Pairwise fun c d => HT.lexLt [c.1,c.2] [d.1,d.2] = true:=by have h2:=h.2; unfold upP at h2; exact of_decide_eq_true h2
  exact ⟨t,_,rfl,⟨ps,ht,hP⟩,up_land hc hu⟩
theorem Same.isCell {H H':Hp} (s:Same H H') {g:Grid} {v:V} (k:Kn H 1 v):M43.isCell H' g v = M43.isCell H g v:=by
 unfold M43.isCell placeOf; rw [s.tupOf k]
theorem Same.landV {H H':Hp} (s:Same H H') {g:Grid} {v:V} (k:Kn H 2 v):M43.landV H' g v = M43.landV H g v:=by
 unfold M43.landV
 rw [s.tupOf (k.le (by omega))]
 cases e:L2.tupOf H v with
 | none => rfl
 | some xs =>
  obtain ⟨a,rfl,ha⟩:=of_tupOf e
  obtain ⟨_,hx⟩:=k.items ha
  have h1:xs.all (M43.isCell H' g) = xs.all (M43.isCell H g):=by
   rw [Bool.eq_iff_iff,List.all_eq_true,List.all_eq_true]
   exact ⟨fun h x hm => by rw [← Same.isCell s (hx x hm)]; exact h x hm,fun h x hm => by rw [Same.isCell s (hx x hm)]; exact h x hm⟩
  have h2:plsOf H' xs = plsOf H xs:=by
   unfold plsOf
   have:∀ l:List V,(∀ x ∈ l,x ∈ xs)→l.filterMap (placeOf H') = l.filterMap (placeOf H):=fun l => by
    induction l with
    | nil => intro _; rfl
    | cons x l ih =>
     intro hl
     have e2:placeOf H' x = placeOf H x:=by unfold placeOf; rw [s.tupOf (hx x (hl x List.mem_cons_self))]
     rw [List.filterMap_cons,List.filterMap_cons,e2,ih fun y hy => hl y (List.mem_cons_of_mem _ hy)]
   exact this xs fun _ h => h
  dsimp only
  rw [h1,h2]
theorem up_pairs (cs:List Pl):((cs.zip (cs.drop 1)).map fun p => HT.lexLt [p.1.1,p.1.2] [p.2.1,p.2.2]).all id = upP cs:=by
 induction cs with
 | nil => rfl
 | cons a cs ih =>
  cases cs with
  | nil => simp [upP]
  | cons b cs =>
   have e:((a :: b :: cs).zip ((a :: b :: cs).drop 1)).map (fun p:Pl × Pl => HT.lexLt [p.1.1,p.1.2] [p.2.1,p.2.2]) = HT.lexLt [a.1,a.2] [b.1,b.2] :: ((b :: cs).zip ((b :: cs).drop 1)).map fun p:Pl × Pl => HT.lexLt [p.1.1,p.1.2] [p.2.1,p.2.2]:=rfl
   rw [e,List.all_cons,ih]
   unfold upP
   rw [Bool.eq_iff_iff,Bool.and_eq_true,decide_eq_true_eq,decide_eq_true_eq]
   show ltP a b∧_ ↔ _
   rw [List.pairwise_cons (a:=a)]
   constructor
   ·rintro ⟨h1,h2⟩
    refine ⟨fun x hx => ?_,h2⟩
    rcases List.mem_cons.mp hx with rfl | hx
    ·exact h1
    ·exact lex_tr h1 ((List.pairwise_cons.mp h2).1 x hx)
   ·rintro ⟨h1,h2⟩
    exact ⟨h1 b List.mem_cons_self,h2⟩
noncomputable def spRising:Sp:=fun vs H Q _ => ∃ a cs,vs = [.ref a]∧SqA H a cs∧cs.length ≤ 1000∧∀ H',Same H H'→Q (.bl (upP cs)) H'
noncomputable def spIsLand:Sp:=fun vs H Q _ => ∃ a g w v,vs = [.ref a,v]∧GridAt H a g∧Good g w∧Kn H 3 v∧∀ H',Same H H'→Q (.bl (landV H g v)) H'
noncomputable def spChkLand (C:Addr):Sp:=fun vs H Q E => ∃ a g w v,vs = [.ref a,v]∧GridAt H a g∧Good g w∧Kn H 3 v∧(landV H g v = true→∀ H',Same H H'→Q .non H')∧(landV H g v = false→∀ H',Same H H'→E (.ref C) none H')
section
variable {P:Program} {w:World} {K:PySem.W.Frag} {mg:Str→Option Value} {base:Heap}
theorem scRising:FnScope ["things"] ["things"] (defScope sRising):=⟨rfl,rfl,rfl,by decide +kernel,rfl,by decide +kernel,by decide +kernel⟩
theorem ndRO:(["one","other"]:List Str).Nodup:=by decide +kernel
theorem ok_rising {f:Addr} {fd:FuncData} (F:Fun K "is_rising" "is_rising" sRising f fd) (T:Txt mg) (T2:Txt2 mg):FnOk P w K mg base CX0 1 f fd ["things"] spRising:=by
 refine F.ok scRising (fun vs H Q E h => ?_) (fun cdv A outer s H vs Q E hr h => ?_)
 ·obtain ⟨a,cs,rfl,_⟩:=h; rfl
 ·obtain ⟨a,cs,rfl,⟨ps,ha,hP⟩,hz,q⟩:=h
  have hlen:ps.length = cs.length:=Paired.length hP
  refine ⟨_,pss_one (ps_ret (pe_callB (call_all rfl) rfl T.all boot_all (pa_lc (pe_comp1 (defScope sRising).names ["things"] ["one","other"] [] rfl (PI.or (pi_zip kT_ok rfl T2.zip (pa_v (pv 0) (pa_s (pe_slice sl_tupU (pv 0) (po_some pe_int) po_none) pa_nil))) (pi_zip2 kT_ok rfl T2.zip (pa_v (pv 0) (pa_s (pe_slice sl_tupU (pv 0) (po_some pe_int) po_none) pa_nil)))) rfl rfl rfl (by decide +kernel)
   (fun Z => pg_tup rfl (pgs_cons (pg_name (i:=0) ndRO rfl (Or.inl rfl)) (pgs_cons (pg_name (i:=1) ndRO rfl (Or.inl rfl)) pgs_nil))) (fun Z => pts_nil) (fun Z => pe_cmpR (op_ltT (Nat.lt_of_succ_lt (hu_of hr))) (pv 0) (pv 1) (nomark _))) pa_nil))),?_⟩
  cases ps with
  | nil =>
   have ec:cs = []:=by cases hP; rfl
   subst ec
   refine .inl ⟨_,rfl,_,rfl,_,rfl,a,_,rfl,ha,fun t H1 s1 ht => ?_⟩
   rw [cutR] at ht
   refine ⟨a,t,[],[],rfl,SqT.of (s1 _ _ ha),SqT.of ht,fun Z r hr' => ?_⟩
   refine for_zip (xs:=[]) (ys:=[]) rfl (fun i σ H' => Same H1 H'∧H' r = some (.lst [])) ⟨same_upd hr',upd_same⟩ (fun i σ H' h => ⟨SqT.of (h.1 _ _ (s1 _ _ ha)),SqT.of (h.1 _ _ ht)⟩) ?_ ?_
   ·intro i x y p3 σ H' hx; cases hx
   ·rintro σ H' ⟨hs,hl'⟩
    exact ⟨r,[],rfl,SqL.of hl',q H' (s1.trans hs)⟩
  | cons p0 ps0 =>
   refine .inr ⟨_,rfl,_,rfl,_,rfl,a,_,rfl,ha,fun t H1 s1 ht => ?_⟩
   rw [cutR] at ht
   generalize hps:p0 :: ps0 = ps at *
   have h1:1 ≤ ps.length:=by rw [← hps]; simp
   refine ⟨a,t,ps.map V.ref,(ps.drop 1).map V.ref,rfl,SqT.of (s1 _ _ ha),SqT.of ht,fun Z r hr' => ?_⟩
   refine for_zip2 (xs:=ps.map V.ref) (ys:=(ps.drop 1).map V.ref) (by rw [List.length_map,List.length_map,List.length_drop]; omega) (fun i σ H' => σ.length = 2∧Same H1 H'∧H' r = some (.lst ((((cs.zip (cs.drop 1)).map fun p => HT.lexLt [p.1.1,p.1.2] [p.2.1,p.2.2]).take i).map V.bl))) ⟨rfl,same_upd hr',by rw [upd_same]; rfl⟩
    (fun i σ H' h => ⟨SqT.of (h.2.1 _ _ (s1 _ _ ha)),SqT.of (h.2.1 _ _ ht)⟩) ?_ ?_
   ·rintro i x y p3 σ H' hx hy ⟨hσ,hs,hl'⟩ hp3
    match σ,hσ with
    | [x0,x1],_ =>
    obtain ⟨b,hb,rfl⟩:=getR hx
    obtain ⟨b2,hb2,rfl⟩:=getR hy
    have hb2':ps[i + 1]? = some b2:=by rw [List.getElem?_drop] at hb2; rw [show i + 1 = 1 + i by omega]; exact hb2
    obtain ⟨c,hc,he⟩:=hP.at hb
    obtain ⟨c2,hc2,he2⟩:=hP.at hb2'
    have s3:=same_upd (o:=.tup [.ref b,.ref b2]) hp3
    refine ⟨p3,_,rfl,SqT.of upd_same,rfl,_,_,rfl,_,_,rfl,rfl,?_⟩
    refine body_all ?_
    refine ⟨_,rfl,_,rfl,b,b2,[c.1,c.2],[c2.1,c2.2],rfl,rfl,SqT.of (s3 _ _ (hs _ _ (s1 _ _ he))),SqT.of (s3 _ _ (hs _ _ (s1 _ _ he2))),?_⟩
    have hz1:(cs.zip (cs.drop 1))[i]? = some (c,c2):=by
     rw [List.getElem?_zip_eq_some]
     refine ⟨hc,?_⟩
     rw [List.getElem?_drop,show 1 + i = i + 1 by omega]; exact hc2
    have hi:i < cs.length:=(List.getElem?_eq_some_iff.mp hc).1
    refine ⟨_,s3 _ _ hl',small1000 (by rw [List.length_map,List.length_take]; omega),rfl,fun b' u e' => ?_,?_⟩
    ·rw [upd_ne (ne_of_none e' hr')]; exact s3 _ _ (hs _ _ e')
    ·rw [upd_same,List.take_succ,List.getElem?_map,hz1,List.map_append]; rfl
   ·rintro σ H' ⟨_,hs,hl'⟩
    have hle:((cs.zip (cs.drop 1)).map fun p => HT.lexLt [p.1.1,p.1.2] [p.2.1,p.2.2]).length ≤ ((ps.drop 1).map V.ref).length:=by
     rw [List.length_map,List.length_zip,List.length_drop,List.length_map,List.length_drop]; omega
    rw [List.take_of_length_le hle] at hl'
    refine ⟨r,_,rfl,SqL.of hl',?_⟩
    rw [up_pairs]
    exact q H' (s1.trans hs)
theorem scIsLand:FnScope ["mead","thing"] ["mead","thing"] (defScope sIsLand):=⟨rfl,rfl,rfl,by decide +kernel,rfl,by decide +kernel,by decide +kernel⟩
theorem ndPM:(["place","mead"]:List Str).Nodup:=by decide +kernel
theorem ok_isLand {f g1 g2 g3:Addr} {fd d1 d2 d3:FuncData} (F:Fun K "is_land" "is_land" sIsLand f fd) (T:Txt mg) (a1:At P w K mg base CX0 5 "check_mead" g1 d1 ["mead"] spCheck) (a2:At P w K mg base CX0 3 "is_cell" g2 d2 ["mead","thing"] spIsCell) (a3:At P w K mg base CX0 1 "is_rising" g3 d3 ["things"] spRising):FnOk P w K mg base CX0 6 f fd ["mead","thing"] spIsLand:=by
 refine F.ok scIsLand (fun vs H Q E h => ?_) (fun cdv A outer s H vs Q E hr h => ?_)
 ·obtain ⟨a,g,w',v,rfl,_⟩:=h; rfl
 ·obtain ⟨a,g,w',v,rfl,hA,G,k,q⟩:=h
  refine ⟨_,pss_cons (ps_expr (pe_call a1.ok hr rfl a1.nm a1.kp a1.bd .nil pass0 (pa_v (pv 0) pa_nil))) <|
   pss_cons (ps_if (PW.pt (pw_or (pt_not (pt_val (pe_callB call_isinst rfl T.isinstance boot_isinstance (pa_v (pv 1) (pa_v (pe_bltn (v:=.ty "tuple") rfl T.tuple boot_tuple rfl) pa_nil))))) (pw_or1 (pt_not (pt_val (pe_callB (call_all rfl) rfl T.all boot_all (pa_lc (pe_comp1 (defScope sIsLand).names ["mead","thing"] ["place"] [("mead",0)] rfl (pi_tup (pv 1)) rfl rfl rfl (by decide +kernel)
    (fun Z => pg_name (i:=0) ndPM rfl (Or.inl rfl)) (fun Z => pts_nil) (fun Z => pe_call a2.ok (hr.mono (by decide)) rfl a2.nm a2.kp a2.bd .nil pass0 (pa_v (pv 1) (pa_v (pv 0) pa_nil)))) pa_nil))))))) (pss_one (ps_ret pe_bl)) pss_nil) <|
   pss_one (ps_ret (pe_call a3.ok (hr.mono (by decide)) rfl a3.nm a3.kp a3.bd .nil pass0 (pa_v (pv 1) pa_nil))),?_⟩
  refine ⟨_,rfl,a,g,w',rfl,hA,G,fun H1 s1 => ?_⟩
  have k1:=k.ext s1.ext
  have q1:∀ H',Same H1 H'→Q (.bl (landV H1 g v)) H':=fun H' s' => by rw [Same.landV s1 (k.le (by decide))]; exact q H' (s1.trans s')
  obtain ⟨ty,hty,_,_,k3⟩:=ty_of (K:=K) (k1.le (show 1 ≤ 3 by decide))
  refine ⟨_,rfl,_,"tuple",ty,_,rfl,hty,k3,_,rfl,iteB (fun e => ?_) fun e => ?_⟩
  ·refine iteT ?_
   have:landV H1 g v = false:=by
    unfold landV
    cases z:tupOf H1 v with
    | none => rfl
    | some xs => rw [z] at e; cases e
   have q':=q1 H1 (Same.refl _)
   rw [this] at q'; exact q'
  ·cases z:tupOf H1 v with
   | none => rw [z] at e; cases e
   | some xs =>
   obtain ⟨t,rfl,ht⟩:=of_tupOf z
   obtain ⟨hz,hk⟩:=k1.items ht
   have hV:landV H1 g (.ref t) = (xs.all (isCell H1 g) && upP (plsOf H1 xs)):=by unfold landV; rw [z]
   refine ⟨_,rfl,t,rfl,⟨xs,SqT.of ht⟩,fun Z l hl => ?_⟩
   refine comp_map (fun x => .bl (isCell H1 g x)) ht hl hz (fun x H' Q' hm hs hq => ?_) fun σ H2 s2 hl2 => ?_
   ·refine ⟨_,rfl,_,rfl,a,g,w',x,rfl,hA.same (s1.trans hs),G,(hk x hm).ext hs.ext,fun H3 s3 => ?_⟩
    rw [Same.isCell hs ((hk x hm).le (by decide))]
    exact hq H3 s3
   ·refine ⟨l,xs.map (isCell H1 g),rfl,SqL.of (by rw [hl2,List.map_map]; rfl),_,rfl,?_⟩
    have ea:(xs.map (isCell H1 g)).all id = xs.all (isCell H1 g):=by rw [List.all_map]; rfl
    rw [ea]
    refine iteB (fun e2 => ?_) fun e2 => ?_
    ·have q':=q1 H2 s2
     have e2':xs.all (isCell H1 g) = false:=by simpa using e2
     rw [hV,e2'] at q'; exact q'
    ·have e2':xs.all (isCell H1 g) = true:=by simpa using e2
     obtain ⟨ps,ex,hP,hc⟩:=cells_pl e2'
     have hl1000:(plsOf H1 xs).length ≤ 1000:=by
      have h1:=Paired.length hP
      have h2:=congrArg List.length ex
      rw [List.length_map] at h2
      omega
     refine ⟨_,rfl,t,plsOf H1 xs,rfl,⟨ps,s2 _ _ (by rw [← ex]; exact ht),hP.same s2⟩,hl1000,fun H3 s3 => ?_⟩
     have q':=q1 H3 (s2.trans s3)
     rw [hV,e2'] at q'; exact q'
theorem scChkLand:FnScope ["mead","land"] ["mead","land"] (defScope sChkLand):=⟨rfl,rfl,rfl,by decide +kernel,rfl,by decide +kernel,by decide +kernel⟩
theorem ok_chkLand {f g1 C:Addr} {fd d1:FuncData} (F:Fun K "check_land" "check_land" sChkLand f fd) (a1:At P w K mg base CX0 6 "is_land" g1 d1 ["mead","thing"] spIsLand) (mC:mg "NoLand" = some (.ref C)) (c:ExcC K C):FnOk P w K mg base (CX1 P w) 7 f fd ["mead","land"] (spChkLand C):=by
 refine F.okX scChkLand (fun vs H Q E h => ?_) (fun cdv A outer s H vs Q E hr h => ?_)
 ·obtain ⟨a,g,w',v,rfl,_⟩:=h; rfl
 ·obtain ⟨a,g,w',v,rfl,hA,G,k,q1,q2⟩:=h
  refine ⟨_,pss_one (ps_if (pt_not (pt_val (pe_call a1.ok hr rfl a1.nm a1.kp a1.bd .nil pass0 (pa_v (pv 0) (pa_v (pv 1) pa_nil))))) (pss_one (ps_raise rfl rfl rfl rfl rfl rfl mC c)) pss_nil),?_⟩
  refine ⟨_,rfl,_,rfl,a,g,w',v,rfl,hA,G,k,fun H' hs => ⟨_,rfl,iteB (fun e => ?_) fun e => ?_⟩⟩
  ·exact q2 (by simpa using e) H' hs
  ·exact q1 (by simpa using e) H' hs
end
end M43
namespace Stb
open PySem PySem.SetTable
theorem len_le_of_sub {α:Type} [DecidableEq α]:∀ (l1 l2:List α),l1.Nodup→(∀ x ∈ l1,x ∈ l2)→l1.length ≤ l2.length
 | [],_,_,_ => Nat.zero_le _
 | x :: xs,l2,hn,hs => by
  have hx:x ∈ l2:=hs x List.mem_cons_self
  have h:=len_le_of_sub xs (l2.erase x) (List.nodup_cons.mp hn).2 (fun y hy => (List.mem_erase_of_ne (fun (e:y = x) => (List.nodup_cons.mp hn).1 (e ▸ hy))).mpr (hs y (List.mem_cons_of_mem _ hy)))
  rw [List.length_erase_of_mem hx] at h
  have:0 < l2.length:=List.length_pos_of_mem hx
  simp only [List.length_cons]; omega
theorem hole (pl:List Nat) (M:Nat) (h:pl.length < M):∃ p,p < M∧p ∉ pl:=by
 refine Classical.byContradiction fun hc => ?_
 have:(List.range M).length ≤ pl.length:=len_le_of_sub _ _ List.nodup_range (fun x hx => Classical.byContradiction fun hn => hc ⟨x,List.mem_range.mp hx,hn⟩)
 rw [List.length_range] at this; omega
theorem least {P:Nat→Prop}:∀ n,P n→∃ m,m ≤ n∧P m∧∀ k < m,¬ P k:=fun n => Nat.strongRecOn n fun n ih h => by
 by_cases hc:∃ k,k < n∧P k
 ·obtain ⟨k,hk,pk⟩:=hc
  obtain ⟨m,h1,h2,h3⟩:=ih k hk pk
  exact ⟨m,by omega,h2,h3⟩
 ·exact ⟨n,Nat.le_refl _,h,fun k hk pk => hc ⟨k,hk,pk⟩⟩
noncomputable def rk (j:Nat):List Nat→Nat
 | [] => 0
 | x :: xs => if x < j then rk j xs + 1 else 0
theorem rk_lt (j:Nat):∀ (l:List Nat) (i:Nat),i < rk j l→l.getD i j < j
 | [],i,h => by simp [rk] at h
 | x :: xs,i,h => by
  unfold rk at h
  by_cases hx:x < j
  ·rw [if_pos hx] at h
   cases i with
   | zero => simpa using hx
   | succ i => simpa using rk_lt j xs i (by omega)
  ·rw [if_neg hx] at h; omega
theorem rk_ge (j:Nat):∀ (l:List Nat),l.Pairwise (· < ·)→∀ i,rk j l ≤ i→¬ l.getD i j < j
 | [],_,i,_ => by simp
 | x :: xs,hp,i,h => by
  rw [List.pairwise_cons] at hp
  unfold rk at h
  by_cases hx:x < j
  ·rw [if_pos hx] at h
   cases i with
   | zero => omega
   | succ i => simpa using rk_ge j xs hp.2 i (by omega)
  ·cases i with
   | zero => simpa using hx
   | succ i =>
    intro hlt
    have hlt':xs.getD i j < j:=by simpa using hlt
    by_cases hi:i < xs.length
    ·have e:xs.getD i j = xs[i]:=by simp [hi]
     have:=hp.1 xs[i] (List.getElem_mem hi)
     omega
    ·have e:xs.getD i j = j:=by simp [List.getD,List.getElem?_eq_none (Nat.le_of_not_lt hi)]
     omega
theorem rk_le (j:Nat):∀ (l:List Nat),rk j l ≤ l.length
 | [] => Nat.le_refl _
 | x :: xs => by
  unfold rk
  have:=rk_le j xs
  split <;> simp <;> omega
theorem rk_at {j:Nat}:∀ {l:List Nat} {i:Nat},l.Pairwise (· < ·)→l[i]? = some j→rk j l = i
 | [],i,_,h => by simp at h
 | x :: xs,0,_,h => by
  have:x = j:=by simpa using h
  unfold rk; rw [if_neg (by omega)]
 | x :: xs,i + 1,hp,h => by
  rw [List.pairwise_cons] at hp
  have h':xs[i]? = some j:=by simpa using h
  have:=hp.1 j (List.mem_of_getElem? h')
  unfold rk; rw [if_pos this,rk_at hp.2 h']
theorem below_go (xs:Array Nat) (j k:Nat) (h1:∀ i,i < k→xs.getD i j < j) (h2:∀ i,k ≤ i→¬ xs.getD i j < j):∀ (fuel lo hi:Nat),hi - lo ≤ fuel→lo ≤ k→k ≤ hi→below.go xs j fuel lo hi = k
 | 0,lo,hi,hf,hl,hh => by unfold below.go; omega
 | fuel + 1,lo,hi,hf,hl,hh => by
  unfold below.go
  by_cases hlt:lo < hi
  ·rw [if_pos hlt]
   dsimp only
   by_cases hm:xs.getD ((lo + hi) / 2) j < j
   ·rw [if_pos hm]
    have:(lo + hi) / 2 < k:=Nat.lt_of_not_le fun h => h2 _ h hm
    exact below_go xs j k h1 h2 fuel _ _ (by omega) (by omega) hh
   ·rw [if_neg hm]
    have:k ≤ (lo + hi) / 2:=Nat.le_of_not_lt fun h => hm (h1 _ h)
    exact below_go xs j k h1 h2 fuel _ _ (by omega) hl this
  ·rw [if_neg hlt]; omega
theorem below_rk {l:List Nat} (h:l.Pairwise (· < ·)) (j:Nat):below l.toArray j = rk j l:=by
 unfold below
 refine below_go _ _ _ (fun i hi => ?_) (fun i hi => ?_) _ _ _ (by simp) (Nat.zero_le _) (by simpa using rk_le j l)
 ·simpa using rk_lt j l i hi
 ·simpa using rk_ge j l h i hi
noncomputable def ins {α:Type} (l:List α) (k:Nat) (x:α):List α:=l.take k ++ x :: l.drop k
theorem insertAt_list {α:Type} (l:List α) (k:Nat) (x:α):SetTable.insertAt l.toArray k x = (ins l k x).toArray:=by
 unfold SetTable.insertAt ins
 apply Array.ext'
 simp
 rw [List.take_of_length_le (by rw [List.length_drop]; exact Nat.le_refl _)]
theorem mem_ins {α:Type} {l:List α} {k:Nat} {x y:α}:y ∈ ins l k x ↔ y = x ∨ y ∈ l:=by
 unfold ins
 rw [List.mem_append,List.mem_cons]
 have:y ∈ l ↔ y ∈ l.take k ∨ y ∈ l.drop k:=by
  rw [← List.mem_append,List.take_append_drop]
 rw [this]
 constructor
 ·rintro (h | h | h)
  ·exact .inr (.inl h)
  ·exact .inl h
  ·exact .inr (.inr h)
 ·rintro (h | h | h)
  ·exact .inr (.inl h)
  ·exact .inl h
  ·exact .inr (.inr h)
theorem len_ins {α:Type} {l:List α} {k:Nat} {x:α} (h:k ≤ l.length):(ins l k x).length = l.length + 1:=by
 unfold ins
 rw [List.length_append,List.length_cons,List.length_take,List.length_drop]; omega
theorem perm_ins {α:Type} (l:List α) (k:Nat) (x:α):(ins l k x).Perm (x :: l):=by
 unfold ins
 refine List.perm_middle.trans ?_
 rw [List.take_append_drop]
theorem ins_up {j:Nat}:∀ {l:List Nat},l.Pairwise (· < ·)→j ∉ l→(ins l (rk j l) j).Pairwise (· < ·)
 | [],_,_ => by simp [ins]
 | x :: xs,hp,hn => by
  rw [List.pairwise_cons] at hp
  rw [List.mem_cons,not_or] at hn
  by_cases hx:x < j
  ·have e:ins (x :: xs) (rk j (x :: xs)) j = x :: ins xs (rk j xs) j:=by
    have e':rk j (x :: xs) = rk j xs + 1:=by rw [rk,if_pos hx]
    unfold ins; rw [e']; rfl
   rw [e,List.pairwise_cons]
   refine ⟨fun y hy => ?_,ins_up hp.2 hn.2⟩
   rcases mem_ins.mp hy with rfl | h
   ·exact hx
   ·exact hp.1 y h
  ·have e:ins (x :: xs) (rk j (x :: xs)) j = j :: x :: xs:=by
    have e':rk j (x :: xs) = 0:=by rw [rk,if_neg hx]
    unfold ins; rw [e']; rfl
   have hx':j < x:=by omega
   rw [e,List.pairwise_cons,List.pairwise_cons]
   refine ⟨fun y hy => ?_,hp⟩
   rcases List.mem_cons.mp hy with rfl | h
   ·exact hx'
   ·exact Nat.lt_trans hx' (hp.1 y h)
theorem zip_ins {α β:Type} (l:List α) (k:List β) (r:Nat) (x:α) (y:β) (hl:l.length = k.length):(ins l r x).zip (ins k r y) = ins (l.zip k) r (x,y):=by
 unfold ins
 rw [List.zip_append (by rw [List.length_take,List.length_take,hl]),List.zip_cons_cons]
 unfold List.zip
 rw [List.take_zipWith,List.drop_zipWith]
noncomputable def tb (mask moves:Nat) (led:Bool) (pl:List Nat):SetTable:={ mask:=mask,place:=pl.toArray,dummies:=#[],finger:=0,led:=led,moves:=moves,plain:=true }
theorem slot_live {mask moves:Nat} {led:Bool} {pl:List Nat} {i j:Nat} (hu:pl.Pairwise (· < ·)) (h:pl[i]? = some j):(tb mask moves led pl).slot j = .live i:=by
 have e:below pl.toArray j = i:=by rw [below_rk hu,rk_at hu h]
 unfold SetTable.slot
 show (let i':=below pl.toArray j; if pl.toArray[i']? == some j then Slot.live i' else _) = _
 rw [e]
 simp [h]
theorem slot_empty {mask moves:Nat} {led:Bool} {pl:List Nat} {j:Nat} (h:j ∉ pl):(tb mask moves led pl).slot j = .empty:=by
 unfold SetTable.slot
 show (let i':=below pl.toArray j; if pl.toArray[i']? == some j then Slot.live i' else if has #[] j then .dummy else .empty) = _
 have h1:(pl.toArray[below pl.toArray j]? == some j) = false:=by
  rw [beq_eq_false_iff_ne]
  intro e
  exact h (List.mem_of_getElem? (by simpa using e))
 have h2:has #[] j = false:=by simp [has]
 simp only [h1,h2]; rfl
noncomputable def adv (mask:Nat) (p:Probe):Probe:=(tb mask 0 false []).advance p
noncomputable def nth (mask:Nat) (h:Int):Nat→Probe
 | 0 => (tb mask 0 false []).probeStart h
 | n + 1 => adv mask (nth mask h n)
noncomputable def lp (mask:Nat) (h:Int):Nat→Nat × Nat
 | 0 => (bits h % (mask + 1),bits h)
 | k + 1 => leap mask (lp mask h k).1 (lp mask h k).2
noncomputable def hdp (mask:Nat) (q:Nat × Nat):Probe:={ j:=q.1,more:=runEnd mask q.1 - q.1,i:=q.1,perturb:=q.2,dummy:=none }
noncomputable def idx (mask:Nat) (h:Int):Nat→Nat
 | 0 => 0
 | k + 1 => idx mask h k + (runEnd mask (lp mask h k).1 - (lp mask h k).1) + 1
theorem run_in {mask:Nat} {h:Int} {n:Nat} {p:Probe} (hn:nth mask h n = p):∀ d,d ≤ p.more→nth mask h (n + d) = { p with j:=p.j + d,more:=p.more - d }
 | 0,_ => by rw [Nat.add_zero,hn]; rfl
 | d + 1,hd => by
  show adv mask (nth mask h (n + d)) = _
  rw [run_in hn d (by omega)]
  unfold adv SetTable.advance
  dsimp only
  rw [if_pos (by omega)]
  simp only [Probe.mk.injEq,and_true,true_and]
  omega
theorem at_idx {mask:Nat} {h:Int}:∀ k,nth mask h (idx mask h k) = hdp mask (lp mask h k)
 | 0 => rfl
 | k + 1 => by
  have ih:=at_idx (mask:=mask) (h:=h) k
  show adv mask (nth mask h (idx mask h k + (runEnd mask (lp mask h k).1 - (lp mask h k).1))) = _
  have e:=run_in ih (runEnd mask (lp mask h k).1 - (lp mask h k).1) (Nat.le_refl _)
  rw [e]
  unfold adv SetTable.advance hdp
  dsimp only
  rw [if_neg (by omega)]
  rfl
theorem lp_le (mask:Nat) (h:Int):∀ k,(lp mask h k).1 ≤ mask
 | 0 => Nat.le_of_lt_succ (Nat.mod_lt _ (Nat.succ_pos _))
 | k + 1 => Nat.le_of_lt_succ (Nat.mod_lt _ (Nat.succ_pos _))
theorem lp_2 (mask:Nat) (h:Int):∀ k,(lp mask h k).2 = bits h / 32 ^ k
 | 0 => by simp [lp]
 | k + 1 => by
  show (lp mask h k).2 / 32 = _
  rw [lp_2 mask h k,Nat.div_div_eq_div_mul,Nat.pow_succ]
theorem bits_lt (h:Int):bits h < 2 ^ 64:=by
 unfold bits
 have h1:=Int.emod_lt_of_pos h (show (0:Int) < 2 ^ 64 by decide)
 have h2:=Int.emod_nonneg h (show ((2:Int) ^ 64) ≠ 0 by decide)
 omega
noncomputable def it (mask:Nat) (i:Nat):Nat→Nat
 | 0 => i
 | m + 1 => (it mask i m * 5 + 1) % (mask + 1)
theorem lp_it (mask:Nat) (h:Int):∀ m,(lp mask h (13 + m)).1 = it mask (lp mask h 13).1 m
 | 0 => rfl
 | m + 1 => by
  show ((lp mask h (13 + m)).1 * 5 + 1 + (lp mask h (13 + m)).2 / 32) % (mask + 1) = _
  have e:(lp mask h (13 + m)).2 / 32 = 0:=by
   rw [lp_2,Nat.div_div_eq_div_mul,← Nat.pow_succ]
   refine Nat.div_eq_of_lt (Nat.lt_of_lt_of_le (bits_lt h) ?_)
   exact Nat.le_trans (by decide:2 ^ 64 ≤ 32 ^ 13) (Nat.pow_le_pow_right (by decide) (by omega))
  rw [e,lp_it mask h m]; rfl
noncomputable def Mk (mask:Nat):Prop:=mask = 7 ∨ mask = 31
theorem cyc7:∀ i,i < 8→∀ p,p < 8→∃ m,m < 8∧it 7 i m = p:=by decide +kernel
theorem cyc31:∀ i,i < 32→∀ p,p < 32→∃ m,m < 32∧it 31 i m = p:=by decide +kernel
theorem cover {mask:Nat} (hm:Mk mask) (h:Int) (p:Nat) (hp:p ≤ mask):∃ k,k ≤ 13 + mask∧(lp mask h k).1 = p:=by
 have hl:=lp_le mask h 13
 rcases hm with rfl | rfl
 ·obtain ⟨m,h1,h2⟩:=cyc7 (lp 7 h 13).1 (by omega) p (by omega)
  exact ⟨13 + m,by omega,by rw [lp_it]; exact h2⟩
 ·obtain ⟨m,h1,h2⟩:=cyc31 (lp 31 h 13).1 (by omega) p (by omega)
  exact ⟨13 + m,by omega,by rw [lp_it]; exact h2⟩
theorem run9 (mask i:Nat):runEnd mask i - i ≤ 9:=by unfold runEnd; split <;> omega
theorem runEnd_le {mask i:Nat} (h:i ≤ mask):runEnd mask i ≤ mask:=by unfold runEnd; split <;> omega
theorem runEnd_ge (mask i:Nat):i ≤ runEnd mask i:=by unfold runEnd; split <;> omega
theorem idx_le (mask:Nat) (h:Int):∀ k,idx mask h k ≤ 10 * k
 | 0 => Nat.le_refl _
 | k + 1 => by
  have:=idx_le mask h k
  have:=run9 mask (lp mask h k).1
  unfold idx; omega
theorem nth_inv (mask:Nat) (h:Int):∀ n,(nth mask h n).j + (nth mask h n).more = runEnd mask (nth mask h n).i∧(nth mask h n).i ≤ mask∧(nth mask h n).dummy = none
 | 0 => by
  have h1:bits h % (mask + 1) ≤ mask:=Nat.le_of_lt_succ (Nat.mod_lt _ (Nat.succ_pos _))
  refine ⟨?_,h1,rfl⟩
  show bits h % (mask + 1) + (runEnd mask (bits h % (mask + 1)) - bits h % (mask + 1)) = runEnd mask (bits h % (mask + 1))
  have:=runEnd_ge mask (bits h % (mask + 1))
  omega
 | n + 1 => by
  obtain ⟨h1,h2,h3⟩:=nth_inv mask h n
  show (adv mask (nth mask h n)).j + (adv mask (nth mask h n)).more = runEnd mask (adv mask (nth mask h n)).i∧(adv mask (nth mask h n)).i ≤ mask∧(adv mask (nth mask h n)).dummy = none
  unfold adv SetTable.advance
  by_cases hc:(nth mask h n).more > 0
  ·rw [if_pos hc]
   exact ⟨by show (nth mask h n).j + 1 + ((nth mask h n).more - 1) = _; rw [← h1]; omega,h2,h3⟩
  ·rw [if_neg hc]
   have h4:(leap mask (nth mask h n).i (nth mask h n).perturb).1 ≤ mask:=Nat.le_of_lt_succ (Nat.mod_lt _ (Nat.succ_pos _))
   refine ⟨?_,h4,h3⟩
   have:=runEnd_ge mask (leap mask (nth mask h n).i (nth mask h n).perturb).1
   show (leap mask (nth mask h n).i (nth mask h n).perturb).1 + (runEnd mask (leap mask (nth mask h n).i (nth mask h n).perturb).1 - (leap mask (nth mask h n).i (nth mask h n).perturb).1) = runEnd mask (leap mask (nth mask h n).i (nth mask h n).perturb).1
   omega
theorem nth_le (mask:Nat) (h:Int) (n:Nat):(nth mask h n).j ≤ mask:=by
 obtain ⟨h1,h2,_⟩:=nth_inv mask h n
 have:=runEnd_le h2
 omega
theorem first_free {mask:Nat} (hm:Mk mask) (h:Int) (F:Nat→Prop) (hF:∃ p,p ≤ mask∧¬ F p):∃ n0 k,n0 ≤ idx mask h k∧k ≤ 13 + mask∧n0 < 10 * turns mask∧¬ F (nth mask h n0).j∧∀ m,m < n0→F (nth mask h m).j:=by
 obtain ⟨p,hp,hf⟩:=hF
 obtain ⟨k,hk,e⟩:=cover hm h p hp
 have e2:(nth mask h (idx mask h k)).j = p:=by rw [at_idx]; exact e
 obtain ⟨n0,h1,h2,h3⟩:=least (P:=fun n => ¬ F (nth mask h n).j) (idx mask h k) (by rw [e2]; exact hf)
 have:=idx_le mask h k
 exact ⟨n0,k,h1,hk,by unfold turns; omega,h2,fun m hm => Classical.byContradiction fun hc => h3 m hm hc⟩
theorem go_run {mask moves:Nat} {led:Bool} {pl:List Nat} (hu:pl.Pairwise (· < ·)) (hs:Nat→Int) (h:Int) (n0:Nat) (hE:(nth mask h n0).j ∉ pl) (hL:∀ m,m < n0→(nth mask h m).j ∈ pl):∀ (d n fuel:Nat),n + d = n0→d < fuel →
  (probe.go (tb mask moves led pl) hs h fuel (nth mask h n) = some (.empty (nth mask h n0).j none)∧∀ m,n ≤ m→m < n0→∀ i,pl[i]? = some (nth mask h m).j→hs i ≠ h) ∨
  ∃ m i,n ≤ m∧m < n0∧pl[i]? = some (nth mask h m).j∧hs i = h∧probe.go (tb mask moves led pl) hs h fuel (nth mask h n) = some (.candidate (nth mask h m).j i (nth mask h (m + 1)))∧∀ m',n ≤ m'→m' < m→∀ i,pl[i]? = some (nth mask h m').j→hs i ≠ h
 | 0,n,0,_,hf => absurd hf (by omega)
 | 0,n,fuel + 1,hn,hf => by
  have hn':n = n0:=by omega
  subst hn'
  refine .inl ⟨?_,fun m h1 h2 => absurd h1 (by omega)⟩
  unfold probe.go
  rw [slot_empty hE]
  dsimp only
  rw [(nth_inv mask h n).2.2]
 | d + 1,n,0,_,hf => absurd hf (by omega)
 | d + 1,n,fuel + 1,hn,hf => by
  obtain ⟨i,hi⟩:=List.mem_iff_getElem?.mp (hL n (by omega))
  have hun:∀ i',pl[i']? = some (nth mask h n).j→i' = i:=fun i' hi' => by rw [← rk_at hu hi',rk_at hu hi]
  by_cases hh:hs i = h
  ·refine .inr ⟨n,i,Nat.le_refl _,by omega,hi,hh,?_,fun m' h1 h2 => absurd h1 (by omega)⟩
   unfold probe.go
   rw [slot_live hu hi]
   dsimp only
   rw [if_pos (by simpa using hh)]
   rfl
  ·have e:probe.go (tb mask moves led pl) hs h (fuel + 1) (nth mask h n) = probe.go (tb mask moves led pl) hs h fuel (nth mask h (n + 1)):=by
    rw [probe.go,slot_live hu hi]
    dsimp only
    rw [if_neg (by simpa using hh)]
    rfl
   rw [e]
   have hne:∀ i',pl[i']? = some (nth mask h n).j→hs i' ≠ h:=fun i' hi' => by rw [hun i' hi']; exact hh
   rcases go_run hu hs h n0 hE hL d (n + 1) fuel (by omega) (by omega) with ⟨h1,h2⟩ | ⟨m,i',h1,h2,h3,h4,h5,h6⟩
   ·refine .inl ⟨h1,fun m a b => ?_⟩
    by_cases e:m = n
    ·subst e; exact hne
    ·exact h2 m (by omega) b
   ·refine .inr ⟨m,i',by omega,h2,h3,h4,h5,fun m' a b => ?_⟩
    by_cases e:m' = n
    ·subst e; exact hne
    ·exact h6 m' (by omega) b
noncomputable def Rch (mask:Nat) (F:Nat→Prop) (x:Nat × Int):Prop:=∃ n,(nth mask x.2 n).j = x.1∧∀ m,m < n→F (nth mask x.2 m).j
structure Ok (mask:Nat) (pl:List Nat) (hs:List Int):Prop where
 mk':Mk mask
 len:pl.length = hs.length
 up:pl.Pairwise (· < ·)
 top:∀ p ∈ pl,p ≤ mask
 few:hs.length * 5 < mask * 3
 reach:∀ x ∈ pl.zip hs,Rch mask (· ∈ pl) x
theorem Ok.nil:Ok 7 [] []:=⟨.inl rfl,rfl,List.Pairwise.nil,fun p h => absurd h (by simp),by decide,fun x h => absurd h (by simp)⟩
theorem Ok.free {mask:Nat} {pl:List Nat} {hs:List Int} (o:Ok mask pl hs) (h:Int):∃ n0,n0 < 10 * turns mask∧(nth mask h n0).j ∉ pl∧∀ m,m < n0→(nth mask h m).j ∈ pl:=by
 have hl:pl.length < mask + 1:=by have:=o.few; have:=o.len; omega
 obtain ⟨p,h1,h2⟩:=hole pl (mask + 1) hl
 obtain ⟨n0,k,a,b,c,d,e⟩:=first_free o.mk' h (· ∈ pl) ⟨p,by omega,h2⟩
 exact ⟨n0,c,d,e⟩
theorem Ok.met {mask:Nat} {pl:List Nat} {hs:List Int} (o:Ok mask pl hs) {i n0:Nat} {h:Int} (hi:hs[i]? = some h) (h0:(nth mask h n0).j ∉ pl):∃ m,m < n0∧pl[i]? = some (nth mask h m).j:=by
 have hlt:i < pl.length:=by rw [o.len]; exact (List.getElem?_eq_some_iff.mp hi).1
 have hp:pl[i]? = some pl[i]:=List.getElem?_eq_getElem hlt
 have hz:(pl.zip hs)[i]? = some (pl[i],h):=by rw [List.getElem?_zip_eq_some]; exact ⟨hp,hi⟩
 obtain ⟨n,h1,h2⟩:=o.reach _ (List.mem_of_getElem? hz)
 have h1':(nth mask h n).j = pl[i]:=h1
 refine ⟨n,?_,by rw [h1']; exact hp⟩
 refine Nat.lt_of_not_le fun hle => ?_
 by_cases e:n0 = n
 ·subst e; exact h0 (by rw [h1']; exact List.getElem_mem hlt)
 ·exact h0 (h2 n0 (by omega))
theorem Ok.put {mask:Nat} {pl:List Nat} {hs:List Int} (o:Ok mask pl hs) {h:Int} {n0:Nat} (hE:(nth mask h n0).j ∉ pl) (hL:∀ m,m < n0→(nth mask h m).j ∈ pl) (few:(hs.length + 1) * 5 < mask * 3) :
  Ok mask (ins pl (rk (nth mask h n0).j pl) (nth mask h n0).j) (ins hs (rk (nth mask h n0).j pl) h):=by
 have hr:rk (nth mask h n0).j pl ≤ pl.length:=rk_le _ _
 refine ⟨o.mk',?_,ins_up o.up hE,fun p hp => ?_,?_,fun x hx => ?_⟩
 ·rw [len_ins hr,len_ins (by rw [← o.len]; exact hr),o.len]
 ·rcases mem_ins.mp hp with rfl | h
  ·exact nth_le _ _ _
  ·exact o.top p h
 ·rw [len_ins (by rw [← o.len]; exact hr)]; exact few
 ·rw [zip_ins _ _ _ _ _ o.len] at hx
  rcases mem_ins.mp hx with rfl | hx
  ·exact ⟨n0,rfl,fun m hm => mem_ins.mpr (.inr (hL m hm))⟩
  ·obtain ⟨n,h1,h2⟩:=o.reach x hx
   exact ⟨n,h1,fun m hm => mem_ins.mpr (.inr (h2 m hm))⟩
end Stb
namespace Stb
open PySem PySem.SetTable
noncomputable def Full (ow:Array (Option Nat)) (j:Nat):Prop:=∃ k,ow[j]? = some (some k)
structure Own (mask:Nat) (ow:Array (Option Nat)) (done:List Int):Prop where
 mk':Mk mask
 size:ow.size = mask + 1
 bnd:∀ (j k:Nat),ow[j]? = some (some k)→k < done.length
 has:∀ k:Nat,k < done.length→∃ j:Nat,ow[j]? = some (some k)
 uniq:∀ (j j' k:Nat),ow[j]? = some (some k)→ow[j']? = some (some k)→j = j'
 reach:∀ (j k:Nat) (h:Int),ow[j]? = some (some k)→done[k]? = some h→Rch mask (Full ow) (j,h)
theorem Own.hole {mask:Nat} {ow:Array (Option Nat)} {done:List Int} (o:Own mask ow done) (hl:done.length ≤ mask):∃ p,p ≤ mask∧¬ Full ow p:=by
 refine Classical.byContradiction fun hc => ?_
 have hall:∀ p,p ≤ mask→Full ow p:=fun p hp => Classical.byContradiction fun hn => hc ⟨p,hp,hn⟩
 have hf:∀ p,p ≤ mask→ow[p]? = some (some ((ow.getD p none).getD 0)):=fun p hp => by
  obtain ⟨k,hk⟩:=hall p hp
  rw [Array.getD_eq_getD_getElem?,hk]; rfl
 have h1:((List.range (mask + 1)).map fun p => (ow.getD p none).getD 0).Nodup:=by
  refine List.pairwise_map.mpr ((List.nodup_range (n:=mask + 1)).imp_of_mem fun {a b} ha hb hne e => hne ?_)
  have ha':=hf a (by have:=List.mem_range.mp ha; omega)
  have hb':=hf b (by have:=List.mem_range.mp hb; omega)
  rw [e] at ha'
  exact o.uniq a b _ ha' hb'
 have h2:((List.range (mask + 1)).map fun p => (ow.getD p none).getD 0).length ≤ (List.range done.length).length:=len_le_of_sub _ _ h1 fun x hx => by
  obtain ⟨p,hp,rfl⟩:=List.mem_map.mp hx
  exact List.mem_range.mpr (o.bnd p _ (hf p (by have:=List.mem_range.mp hp; omega)))
 rw [List.length_map,List.length_range,List.length_range] at h2
 omega
theorem getD_none {mask:Nat} {ow:Array (Option Nat)} (hs:ow.size = mask + 1) {j:Nat} (hj:j ≤ mask):(ow.getD j (some 0)).isNone = true ↔ ¬ Full ow j:=by
 have hlt:j < ow.size:=by omega
 have e:ow[j]? = some ow[j]:=Array.getElem?_eq_getElem hlt
 rw [Array.getD_eq_getD_getElem?,e]
 unfold Full
 rw [e]
 cases ow[j] <;> simp
theorem free_run {mask:Nat} {ow:Array (Option Nat)} {h:Int} {n0 K:Nat} (hs:ow.size = mask + 1) (hE:¬ Full ow (nth mask h n0).j) (hL:∀ m,m < n0→Full ow (nth mask h m).j) (hK:n0 ≤ idx mask h K):∀ (d k fuel:Nat),k + d = K→d < fuel→idx mask h k ≤ n0 →
  layClean.free mask ow fuel (lp mask h k).1 (lp mask h k).2 = some (nth mask h n0).j:=by
 intro d
 induction d with
 | zero =>
  intro k fuel hk hf hi
  obtain ⟨fuel,rfl⟩:∃ f,fuel = f + 1:=⟨fuel - 1,by omega⟩
  have hk':k = K:=by omega
  subst hk'
  have e0:n0 = idx mask h k:=by omega
  have hj:(nth mask h n0).j = (lp mask h k).1:=by rw [e0,at_idx]; rfl
  unfold layClean.free
  have:(List.range (runEnd mask (lp mask h k).1 + 1 - (lp mask h k).1)).find? (fun c => (ow.getD ((lp mask h k).1 + c) (some 0)).isNone) = some 0:=by
   rw [List.find?_range_eq_some]
   refine ⟨?_,List.mem_range.mpr (by have:=runEnd_ge mask (lp mask h k).1; omega),fun j hj => absurd hj (by omega)⟩
   rw [Nat.add_zero,getD_none hs (lp_le _ _ _),← hj]; exact hE
  rw [this]
  dsimp only
  rw [hj,Nat.add_zero]
 | succ d ih =>
  intro k fuel hk hf hi
  obtain ⟨fuel,rfl⟩:∃ f,fuel = f + 1:=⟨fuel - 1,by omega⟩
  have hrun:∀ e,e ≤ runEnd mask (lp mask h k).1 - (lp mask h k).1→(nth mask h (idx mask h k + e)).j = (lp mask h k).1 + e:=fun e he => by
   rw [run_in (at_idx k) e he]; rfl
  have hend:=runEnd_le (lp_le mask h k)
  have hge:=runEnd_ge mask (lp mask h k).1
  unfold layClean.free
  by_cases hc:n0 ≤ idx mask h k + (runEnd mask (lp mask h k).1 - (lp mask h k).1)
  ·have:(List.range (runEnd mask (lp mask h k).1 + 1 - (lp mask h k).1)).find? (fun c => (ow.getD ((lp mask h k).1 + c) (some 0)).isNone) = some (n0 - idx mask h k):=by
    rw [List.find?_range_eq_some]
    refine ⟨?_,List.mem_range.mpr (by omega),fun j hj => ?_⟩
    ·rw [getD_none hs (by omega),← hrun _ (by omega),show idx mask h k + (n0 - idx mask h k) = n0 by omega]; exact hE
    ·have hj':=hL (idx mask h k + j) (by omega)
     rw [hrun j (by omega)] at hj'
     rw [Bool.not_eq_true']
     cases z:(ow.getD ((lp mask h k).1 + j) (some 0)).isNone with
     | false => rfl
     | true => exact absurd hj' ((getD_none hs (by omega)).mp z)
   rw [this]
   dsimp only
   rw [← hrun _ (by omega),show idx mask h k + (n0 - idx mask h k) = n0 by omega]
  ·have:(List.range (runEnd mask (lp mask h k).1 + 1 - (lp mask h k).1)).find? (fun c => (ow.getD ((lp mask h k).1 + c) (some 0)).isNone) = none:=by
    rw [List.find?_range_eq_none]
    intro j hj
    have hj':=hL (idx mask h k + j) (by omega)
    rw [hrun j (by omega)] at hj'
    rw [Bool.not_eq_true']
    cases z:(ow.getD ((lp mask h k).1 + j) (some 0)).isNone with
    | false => rfl
    | true => exact absurd hj' ((getD_none hs (by omega)).mp z)
   rw [this]
   exact ih (k + 1) fuel (by omega) (by omega) (by show idx mask h k + _ + 1 ≤ n0; omega)
theorem Own.put {mask:Nat} {ow:Array (Option Nat)} {done:List Int} (o:Own mask ow done) {h:Int} {n0:Nat} (hE:¬ Full ow (nth mask h n0).j) (hL:∀ m,m < n0→Full ow (nth mask h m).j) :
  Own mask (ow.setIfInBounds (nth mask h n0).j (some done.length)) (done ++ [h]):=by
 have hlt:(nth mask h n0).j < ow.size:=by rw [o.size]; have:=nth_le mask h n0; omega
 have get:∀ j:Nat,(ow.setIfInBounds (nth mask h n0).j (some done.length))[j]? = if (nth mask h n0).j = j then some (some done.length) else ow[j]?:=fun j => by
  rw [Array.getElem?_setIfInBounds]
  by_cases e:(nth mask h n0).j = j
  ·rw [if_pos e,if_pos e,if_pos (by omega)]
  ·rw [if_neg e,if_neg e]
 have keep:∀ j,Full ow j→Full (ow.setIfInBounds (nth mask h n0).j (some done.length)) j:=fun j ⟨k,hk⟩ => by
  refine ⟨k,?_⟩
  rw [get,if_neg (fun e => hE ⟨k,by rw [e]; exact hk⟩)]; exact hk
 refine ⟨o.mk',by rw [Array.size_setIfInBounds,o.size],fun j k e => ?_,fun k hk => ?_,fun j j' k e e' => ?_,fun j k h' e e' => ?_⟩
 ·rw [get] at e
  rw [List.length_append]
  by_cases z:(nth mask h n0).j = j
  ·rw [if_pos z] at e; cases e; simp
  ·rw [if_neg z] at e; have:=o.bnd j k e; simp; omega
 ·rw [List.length_append] at hk
  by_cases z:k = done.length
  ·subst z; exact ⟨_,by rw [get,if_pos rfl]⟩
  ·obtain ⟨j,hj⟩:=o.has k (by simp at hk; omega)
   exact ⟨j,by rw [get,if_neg (fun e => hE ⟨k,by rw [e]; exact hj⟩)]; exact hj⟩
 ·rw [get] at e e'
  by_cases z:(nth mask h n0).j = j
  ·rw [if_pos z] at e; cases e
   by_cases z':(nth mask h n0).j = j'
   ·omega
   ·rw [if_neg z'] at e'; have:=o.bnd j' _ e'; omega
  ·rw [if_neg z] at e
   by_cases z':(nth mask h n0).j = j'
   ·rw [if_pos z'] at e'; cases e'; have:=o.bnd j _ e; omega
   ·rw [if_neg z'] at e'; exact o.uniq j j' k e e'
 ·rw [get] at e
  by_cases z:(nth mask h n0).j = j
  ·rw [if_pos z] at e; cases e
   have:h' = h:=by simpa using e'.symm
   subst this
   exact ⟨n0,z,fun m hm => keep _ (hL m hm)⟩
  ·rw [if_neg z] at e
   have hk:=o.bnd j k e
   rw [List.getElem?_append_left hk] at e'
   obtain ⟨n,h1,h2⟩:=o.reach j k h' e e'
   exact ⟨n,h1,fun m hm => keep _ (h2 m hm)⟩
noncomputable def stepL (mask:Nat) (acc:Option (Array (Option Nat) × Nat)) (h:Int):Option (Array (Option Nat) × Nat):=do
 let (owner,k) ← acc
 let j ← layClean.free mask owner (turns mask) (bits h % (mask + 1)) (bits h)
 pure (owner.setIfInBounds j (some k),k + 1)
theorem fold_run {mask:Nat}:∀ (hs done:List Int) (ow:Array (Option Nat)),Own mask ow done→done.length + hs.length ≤ mask + 1→∃ ow',hs.foldl (stepL mask) (some (ow,done.length)) = some (ow',done.length + hs.length)∧Own mask ow' (done ++ hs)
 | [],done,ow,o,_ => ⟨ow,rfl,by rw [List.append_nil]; exact o⟩
 | h :: hs,done,ow,o,hl => by
  rw [List.length_cons] at hl
  obtain ⟨n0,k,h1,h2,h3,h4,h5⟩:=first_free o.mk' h (Full ow) (o.hole (by omega))
  have e:layClean.free mask ow (turns mask) (bits h % (mask + 1)) (bits h) = some (nth mask h n0).j:=free_run (K:=k) o.size h4 h5 h1 k 0 (turns mask) (by omega) (by unfold turns; omega) (Nat.zero_le _)
  have e2:stepL mask (some (ow,done.length)) h = some (ow.setIfInBounds (nth mask h n0).j (some done.length),done.length + 1):=by
   show (layClean.free mask ow (turns mask) (bits h % (mask + 1)) (bits h)).bind _ = _
   rw [e]; rfl
  rw [List.foldl_cons,e2]
  obtain ⟨ow',g1,g2⟩:=fold_run hs (done ++ [h]) _ (o.put h4 h5) (by rw [List.length_append]; simp; omega)
  refine ⟨ow',?_,by rw [List.append_assoc] at g2; exact g2⟩
  rw [List.length_append] at g1
  rw [show done.length + 1 = done.length + [h].length from rfl,g1]
  simp; omega
theorem Own.nil {mask:Nat} (hm:Mk mask):Own mask (Array.replicate (mask + 1) none) []:=by
 have hno:∀ (j k:Nat),(Array.replicate (mask + 1) (none:Option Nat))[j]? ≠ some (some k):=fun j k e => by
  rw [Array.getElem?_replicate] at e
  split at e <;> cases e
 exact ⟨hm,by simp,fun j k e => absurd e (hno j k),fun k hk => by simp at hk,fun j _ k e => absurd e (hno j k),fun j k _ e => absurd e (hno j k)⟩
theorem layClean_run {mask:Nat} (hm:Mk mask) (hs:List Int) (hl:hs.length ≤ mask + 1):∃ ow,layClean mask hs.toArray = some ow∧Own mask ow hs:=by
 obtain ⟨ow,h1,h2⟩:=fold_run hs [] _ (Own.nil hm) (by simpa using hl)
 refine ⟨ow,?_,by simpa using h2⟩
 unfold layClean
 rw [← Array.foldl_toList]
 show Option.map (·.1) (hs.foldl (stepL mask) (some (Array.replicate (mask + 1) none,0))) = _
 rw [show (some (Array.replicate (mask + 1) (none:Option Nat),0)) = some (Array.replicate (mask + 1) none,([]:List Int).length) from rfl,h1]
 rfl
theorem laid_run {mask:Nat} (hm:Mk mask) (moves:Nat) (led:Bool) (hs:List Int) (few:hs.length * 5 < mask * 3) :
  ∃ (pl:List Nat) (order:List Nat),laid mask 0 moves led true hs.toArray = some (tb mask moves led pl,order.toArray)∧order.Perm (List.range hs.length)∧Ok mask pl (order.map fun k => hs.getD k 0):=by
 obtain ⟨ow,e,o⟩:=layClean_run hm hs (by omega)
 generalize hlive:((List.range (mask + 1)).filterMap fun j => (ow.getD j none).map fun k => (j,k)) = live
 have mem:∀ (j k:Nat),(j,k) ∈ live ↔ ow[j]? = some (some k):=fun j k => by
  rw [← hlive,List.mem_filterMap]
  constructor
  ·rintro ⟨a,_,h⟩
   rw [Array.getD_eq_getD_getElem?] at h
   cases z:ow[a]? with
   | none => rw [z] at h; cases h
   | some x =>
    rw [z] at h
    cases x with
    | none => cases h
    | some b =>
     have h':some (a,b) = some (j,k):=h
     cases h'
     exact z
  ·intro h
   have hlt:j < ow.size:=(Array.getElem?_eq_some_iff.mp h).1
   refine ⟨j,List.mem_range.mpr (by rw [← o.size]; exact hlt),?_⟩
   rw [Array.getD_eq_getD_getElem?,h]; rfl
 have up:(live.map (·.1)).Pairwise (· < ·):=by
  rw [List.pairwise_map,← hlive,List.pairwise_filterMap]
  refine List.pairwise_lt_range.imp fun {a b} hab x hx y hy => ?_
  have ex:x.1 = a:=by
   cases z:ow.getD a none with
   | none => rw [z] at hx; cases hx
   | some c => rw [z] at hx; cases hx; rfl
  have ey:y.1 = b:=by
   cases z:ow.getD b none with
   | none => rw [z] at hy; cases hy
   | some c => rw [z] at hy; cases hy; rfl
  rw [ex,ey]; exact hab
 have nd2:(live.map (·.2)).Nodup:=by
  have nd1:live.Pairwise fun a b => a.1 < b.1:=List.pairwise_map.mp up
  refine List.pairwise_map.mpr (nd1.imp_of_mem fun {a b} ha hb hlt he => ?_)
  have h1:=(mem a.1 a.2).mp ha
  have h2:=(mem b.1 b.2).mp hb
  rw [he] at h1
  have:=o.uniq _ _ _ h1 h2
  omega
 have perm:(live.map (·.2)).Perm (List.range hs.length):=by
  rw [List.perm_ext_iff_of_nodup nd2 List.nodup_range]
  intro k
  rw [List.mem_map,List.mem_range]
  constructor
  ·rintro ⟨x,hx,rfl⟩
   exact o.bnd _ _ ((mem x.1 x.2).mp hx)
  ·intro hk
   obtain ⟨j,hj⟩:=o.has k hk
   exact ⟨(j,k),(mem j k).mpr hj,rfl⟩
 have full:∀ j,Full ow j→j ∈ live.map (·.1):=fun j ⟨k,hk⟩ => List.mem_map.mpr ⟨(j,k),(mem j k).mpr hk,rfl⟩
 have hlen:live.length = hs.length:=by have:=perm.length_eq; simpa using this
 refine ⟨live.map (·.1),live.map (·.2),?_,perm,hm,by simp,up,fun p hp => ?_,by simp only [List.length_map]; omega,fun x hx => ?_⟩
 ·unfold laid
  rw [e]
  show some (({ mask:=mask,place:=(((List.range (mask + 1)).filterMap fun j => (ow.getD j none).map fun k => (j,k)).map (·.1)).toArray,dummies:=#[],finger:=0,led:=led,moves:=moves,plain:=true }:SetTable),(((List.range (mask + 1)).filterMap fun j => (ow.getD j none).map fun k => (j,k)).map (·.2)).toArray) = _
  rw [hlive]; rfl
 ·obtain ⟨x,hx,rfl⟩:=List.mem_map.mp hp
  have:=(Array.getElem?_eq_some_iff.mp ((mem x.1 x.2).mp hx)).1
  rw [o.size] at this; omega
 ·rw [List.map_map] at hx
  rw [List.zip_map'] at hx
  obtain ⟨y,hy,rfl⟩:=List.mem_map.mp hx
  have h1:=(mem y.1 y.2).mp hy
  have hk:=o.bnd _ _ h1
  obtain ⟨n,a,b⟩:=o.reach y.1 y.2 hs[y.2] h1 (List.getElem?_eq_getElem hk)
  refine ⟨n,?_,fun m hm => full _ ?_⟩
  ·show (nth mask (hs.getD y.2 0) n).j = y.1
   rw [show hs.getD y.2 0 = hs[y.2] by simp [hk]]; exact a
  ·have:=b m hm
   show Full ow (nth mask (hs.getD y.2 0) m).j
   rw [show hs.getD y.2 0 = hs[y.2] by simp [hk]]; exact this
theorem relaid_run (moves:Nat) (led:Bool) (pl:List Nat) (hs:List Int) (h5:hs.length = 5) :
  ∃ (pl' order:List Nat) (moves':Nat),(tb 7 moves led pl).relaid hs.toArray (SetTable.grown 5) = some (tb 31 moves' led pl',order.toArray)∧order.Perm (List.range hs.length)∧Ok 31 pl' (order.map fun k => hs.getD k 0):=by
 obtain ⟨pl',order,h1,h2,h3⟩:=laid_run (mask:=31) (.inr rfl) ((tb 7 moves led pl).movedTo 31) led hs (by omega)
 exact ⟨pl',order,_,h1,h2,h3⟩
end Stb
namespace Stb
open PySem PyProof.Rows
noncomputable def hT (k:List Int):Int:=reduceHash (Builtin.Tuple.tupleHashOf (k.map hashInt))
section
variable {prog:Program} {w:World} {A:Around} {E:Value→Shared→Prop} {s:Shared}
noncomputable abbrev KAt (prog:Program) (w:World) (h:Heap) (k:List Int) (a:Addr):Prop:=IsTupleKey (intKind prog w) h k a
theorem KAt.ints {h:Heap} {k:List Int} {vs:List Value} (x:ItemsAre (intKind prog w) k vs):∀ v ∈ vs,∃ i t,v = .int i t:=by
 induction x with
 | nil => intro v hv; cases hv
 | @cons k v' ks vs h1 _ ih =>
  intro v hv
  rcases List.mem_cons.mp hv with rfl | hv
  ·obtain ⟨t,e⟩:=Value.isInt_shape h1
   exact ⟨_,t,e⟩
  ·exact ih v hv
theorem wp_noClass {k:List Int} {a:Addr} {Q:Bool→Shared→Prop} (hk:KAt prog w s.heap k a) (h:Q false s):wpAny (model prog w) A (ofAClassStatement 8 (.ref a)) Q E s:=by
 have hT:=hk.typeIs
 obtain ⟨o,items,n,ho,_,hd,hi⟩:=hk
 unfold ofAClassStatement
 refine wpAny_bind (wpAny_typeOf hT ?_)
 dsimp only
 simp only [beq_self_eq_true,↓reduceIte]
 refine wpAny_bind (wpAny_pure ?_)
 simp only [Bool.not_true,Bool.false_eq_true,↓reduceIte]
 refine wpAny_bind (wpAny_seqItems ho hd ?_)
 refine wpAny_bind ?_
 rw [← Array.forIn_toList]
 refine wpAny_forIn_list _ (fun rest r s' => r.1 = none∧s' = s∧∀ v ∈ rest,∃ i t,v = Value.int i t) _ ?_ ?_ _ _ ⟨rfl,rfl,KAt.ints (h:=s.heap) hi⟩
 ·rintro v rest r s' ⟨hr,rfl,hall⟩
  obtain ⟨i,t,rfl⟩:=hall v List.mem_cons_self
  refine wpAny_bind ?_
  unfold ofAClassStatement
  refine wpAny_pure ?_
  simp only [Bool.false_eq_true,↓reduceIte]
  exact wpAny_pure ⟨rfl,rfl,fun u hu' => hall u (List.mem_cons_of_mem _ hu')⟩
 ·rintro ⟨r1,r2⟩ s' ⟨hr,rfl,_⟩
  simp only at hr
  subst hr
  exact wpAny_pure h
theorem wp_byValue {k:List Int} {a:Addr} {Q:Bool→Shared→Prop} (hk:KAt prog w s.heap k a) (h:Q true s):wpAny (model prog w) A (hashByValue 8 (.ref a)) Q E s:=by
 have hT:=hk.typeIs
 obtain ⟨o,items,n,ho,_,hd,hi⟩:=hk
 unfold hashByValue
 refine wpAny_bind (wpAny_specialOf hT F.slot_tuple_hash.lookup ?_)
 show wpAny _ _ (seqItems? (.ref a) >>= _) _ _ s
 refine wpAny_bind (wpAny_seqItems ho hd ?_)
 refine wpAny_bind ?_
 show wpAny _ _ (forIn items _ _) _ _ s
 rw [← Array.forIn_toList]
 refine wpAny_forIn_list _ (fun rest r s' => r.1 = none∧s' = s∧∀ v ∈ rest,∃ i t,v = Value.int i t) _ ?_ ?_ _ _ ⟨rfl,rfl,KAt.ints (h:=s.heap) hi⟩
 ·rintro v rest r s' ⟨hr,rfl,hall⟩
  obtain ⟨i,t,rfl⟩:=hall v List.mem_cons_self
  refine wpAny_bind ?_
  unfold hashByValue
  refine wpAny_pure ?_
  simp only [Bool.not_true,Bool.false_eq_true,↓reduceIte]
  exact wpAny_pure ⟨rfl,rfl,fun u hu' => hall u (List.mem_cons_of_mem _ hu')⟩
 ·rintro ⟨r1,r2⟩ s' ⟨hr,rfl,_⟩
  simp only at hr
  subst hr
  exact wpAny_pure h
end
end Stb
namespace Stb
open PySem PyProof.Rows
theorem put_tb {mask moves:Nat} {led:Bool} {pl:List Nat} (hu:pl.Pairwise (· < ·)) (j:Nat):(tb mask moves led pl).put j = (tb mask moves led (ins pl (rk j pl) j),rk j pl):=by
 have h2:SetTable.has #[] j = false:=by simp [SetTable.has]
 show (({ tb mask moves led pl with place:=SetTable.insertAt pl.toArray (SetTable.below pl.toArray j) j,dummies:=if SetTable.has #[] j then SetTable.eraseAt #[] (SetTable.below #[] j) else #[] }:SetTable),SetTable.below pl.toArray j) = _
 rw [below_rk hu,insertAt_list,h2]
 rfl
theorem full_tb {mask moves:Nat} {led:Bool} {pl:List Nat}:(tb mask moves led pl).tooFull = decide (mask * 3 ≤ pl.length * 5):=by
 unfold SetTable.tooFull SetTable.fill tb
 simp
theorem order_map {α:Type} (l:List α) (d:α) (order:List Nat) (h:∀ k ∈ order,k < l.length):order.filterMap (fun k => l[k]?) = order.map fun k => l.getD k d:=by
 induction order with
 | nil => rfl
 | cons k ks ih =>
  have hk:=h k List.mem_cons_self
  rw [List.filterMap_cons,List.getElem?_eq_getElem hk,List.map_cons,ih fun k' hk' => h k' (List.mem_cons_of_mem _ hk')]
  simp [hk]
theorem map_range {α:Type} (l:List α) (d:α):(List.range l.length).map (fun k => l.getD k d) = l:=by
 refine List.ext_getElem (by simp) fun i h1 h2 => ?_
 simp [h2]
section
variable {prog:Program} {w:World} {A:Around} {E:Value→Shared→Prop} {s:Shared}
end
end Stb
namespace Stb
open PySem PyProof.Rows
theorem KAt.at {prog:Program} {w:World} {h h':Heap} {k:List Int} {a:Addr} (x:KAt prog w h k a) (e:∀ o,h.get? a = some o→h'.get? a = some o):KAt prog w h' k a:=let ⟨o,items,n,ho,r⟩:=x; ⟨o,items,n,e _ ho,r⟩
section
variable {prog:Program} {w:World} {A:Around} {R:Result→Shared→Prop} {I:Addr} {fp wr:List Addr} {G:Array GenState→Array GenState→Prop} {n:Nat} {P:Nat→Value→Prop} {St:Nat→Shared→Prop} {led:Bool}
end
section
variable {prog:Program} {w:World} {A:Around} {E:Value→Shared→Prop} {s:Shared}
noncomputable def byT (w:World):Bool:=w.params.followText "set-order"
end
end Stb
namespace Stb
open PySem PyProof.Rows
theorem erase_perm {α:Type}:∀ (l:List α) (i:Nat) (h:i < l.length),(l[i] :: l.eraseIdx i).Perm l
 | [],i,h => by simp at h
 | x :: l,0,h => List.Perm.refl _
 | x :: l,i + 1,h => by
  have ih:=erase_perm l i (by simpa using h)
  show (l[i]'(by simpa using h) :: x :: l.eraseIdx i).Perm (x :: l)
  exact (List.Perm.swap _ _ _).trans (ih.cons x)
theorem pick_go {α:Type} (next:Nat→Nat):∀ (fuel k:Nat) (left:List α) (out:Array α),left.length = fuel→(pickOrder.go next fuel k left out).toList.Perm (out.toList ++ left)
 | 0,k,left,out,h => by
  cases left with
  | nil => unfold pickOrder.go; simp
  | cons _ _ => simp at h
 | fuel + 1,k,left,out,h => by
  have hl:next k % left.length < left.length:=Nat.mod_lt _ (by omega)
  unfold pickOrder.go
  rw [List.getElem?_eq_getElem hl]
  have ih:=pick_go next fuel (k + 1) (left.eraseIdx (next k % left.length)) (out.push left[next k % left.length]) (by rw [List.length_eraseIdx_of_lt hl]; omega)
  refine ih.trans ?_
  rw [Array.toList_push,List.append_assoc]
  exact List.Perm.append_left _ (erase_perm _ _ hl)
theorem pick_perm {α:Type} (next:Nat→Nat) (xs:Array α):(pickOrder next xs).toList.Perm xs.toList:=by
 have:=pick_go next xs.size 0 xs.toList #[] (by simp)
 unfold pickOrder
 simpa using this
theorem rk_eq {j:Nat}:∀ {l:List Nat} {i:Nat},i ≤ l.length→(∀ m,m < i→l.getD m j < j)→¬ l.getD i j < j→rk j l = i
 | [],i,h,_,_ => by simp at h; subst h; rfl
 | x :: xs,0,_,_,h2 => by
  have:¬ x < j:=by simpa using h2
  unfold rk; rw [if_neg this]
 | x :: xs,i + 1,h,h1,h2 => by
  have hx:x < j:=by simpa using h1 0 (by omega)
  unfold rk
  rw [if_pos hx,rk_eq (i:=i) (by simpa using h) (fun m hm => by simpa using h1 (m + 1) (by omega)) (by simpa using h2)]
noncomputable def slot (pl:List Nat) (i:Nat):Nat:=if i = 0 then 0 else pl.getD (i - 1) 0 + 1
theorem below_slot {pl:List Nat} (hu:pl.Pairwise (· < ·)) (i:Nat) (hi:i ≤ pl.length):SetTable.below pl.toArray (slot pl i) = i:=by
 rw [below_rk hu]
 cases i with
 | zero => exact rk_eq (Nat.zero_le _) (fun m hm => absurd hm (by omega)) (by unfold slot; simp)
 | succ i =>
  have hlt:i < pl.length:=by omega
  have e:slot pl (i + 1) = pl[i] + 1:=by unfold slot; rw [if_neg (by omega)]; simp [hlt]
  rw [e]
  refine rk_eq hi (fun m hm => ?_) ?_
  ·have hm':m < pl.length:=by omega
   rw [show pl.getD m (pl[i] + 1) = pl[m] by simp [hm']]
   by_cases em:m = i
   ·subst em; omega
   ·have:=List.pairwise_iff_getElem.mp hu m i hm' hlt (by omega); omega
  ·by_cases h2:i + 1 < pl.length
   ·rw [show pl.getD (i + 1) (pl[i] + 1) = pl[i + 1] by simp [h2]]
    have:=List.pairwise_iff_getElem.mp hu i (i + 1) hlt h2 (by omega); omega
   ·simp [List.getD,List.getElem?_eq_none (Nat.le_of_not_lt h2)]
noncomputable def nslot (w:World) (pl:List Nat) (i:Nat):Nat:=if byT w = true then 0 else slot pl i
section
variable {prog:Program} {w:World} {A:Around} {E:Value→Shared→Prop} {s:Shared}
end
noncomputable abbrev IsSetIt (h:Heap) (I a:Addr) (sl i n ep:Nat):Prop:=h.get? I = some { cls:=.type "set_iterator",dict:=none,data:=.fields #[.int sl 0,.int i 0,.ref a,.int n 0,.int ep 0],slots:=#[] }
theorem slot_next:Slot "set_iterator" "__next__" "set_iterator.__next__":=.of (owner:="set_iterator") (n:="__next__") (by rw [typeLookup_type,builtinLookup_eq_fast]; kernel_rfl) (by decide +kernel) (by decide +kernel) (by decide +kernel) (by first | exact .inl (by decide +kernel) | exact .inr (by decide +kernel)) (by rw [isSubtype_type]; kernel_rfl)
theorem slot_self:Slot "set_iterator" "__iter__" "set_iterator.__iter__":=.of (owner:="set_iterator") (n:="__iter__") (by rw [typeLookup_type,builtinLookup_eq_fast]; kernel_rfl) (by decide +kernel) (by decide +kernel) (by decide +kernel) (by first | exact .inl (by decide +kernel) | exact .inr (by decide +kernel)) (by rw [isSubtype_type]; kernel_rfl)
theorem entry_next:entryFor table "set_iterator.__next__" = some Builtin.«set_iterator.__next__»:=entryFor_of_tree (by kernel_rfl)
theorem entry_self:entryFor table "set_iterator.__iter__" = some Builtin.«dict_keyiterator.__iter__»:=entryFor_alias (id':="dict_keyiterator.__iter__") (by kernel_rfl) rfl (by decide +kernel) (by kernel_rfl)
theorem entry_iter:entryFor table "set.__iter__" = some Builtin.«frozenset.__iter__»:=entryFor_alias (id':="frozenset.__iter__") (by kernel_rfl) rfl (by decide +kernel) (by kernel_rfl)
theorem args_next (a:Value):argsOk "set_iterator.__next__" ⟨[a],[]⟩:=by unfold argsOk; kernel_rfl
theorem args_self (a:Value):argsOk "set_iterator.__iter__" ⟨[a],[]⟩:=by unfold argsOk; kernel_rfl
section
variable {prog:Program} {w:World} {A:Around} {E:Value→Shared→Prop} {s:Shared}
end
section
variable {prog:Program} {w:World} {A:Around} {E:Value→Shared→Prop} {s:Shared}
theorem hintT {a:Addr} {Q:Bool→Shared→Prop} (hT:s.TypeIs (.ref a) "set") (h:Q false s):wpAny (model prog w) A (Builtin.List.listLengthHint (.ref a)) Q E s:=by
 unfold Builtin.List.listLengthHint
 refine wpAny_bind (wpAny_specialOf hT PySem.F.slot_set_len.lookup ?_)
 show wpAny _ _ (do if !(← isInstance (.ref a) (.type "set")) then unsupported _ else pure ()
                    let .ref _ ← typeOf (.ref a) | return false
                    _) _ _ _
 refine wpAny_bind (wpAny_isInstance hT sub_set_self ?_)
 simp only [Bool.not_true,Bool.false_eq_true,if_false]
 refine wpAny_bind (wpAny_typeOf hT ?_)
 exact wpAny_pure h
end
end Stb
namespace Stb
theorem perm_lift {α β:Type} (f:α→β) {l l':List β} (p:l.Perm l'):∀ m:List α,l' = m.map f→∃ m':List α,l = m'.map f∧m'.Perm m:=by
 induction p with
 | nil => intro m e; exact ⟨[],rfl,by cases m with | nil => exact .refl _ | cons _ _ => cases e⟩
 | cons x _ ih =>
  intro m e
  cases m with
  | nil => cases e
  | cons y m =>
   rw [List.map_cons,List.cons.injEq] at e
   obtain ⟨m',e1,e2⟩:=ih m e.2
   exact ⟨y :: m',by rw [List.map_cons,e1,e.1],e2.cons y⟩
 | swap x y l =>
  intro m e
  match m,e with
  | a :: b :: m,e =>
   simp only [List.map_cons,List.cons.injEq] at e
   exact ⟨b :: a :: m,by simp [e],.swap a b m⟩
  | [a],e => simp at e
  | [],e => cases e
 | trans _ _ ih1 ih2 =>
  intro m e
  obtain ⟨m1,e1,p1⟩:=ih2 m e
  obtain ⟨m2,e2,p2⟩:=ih1 m1 e1
  exact ⟨m2,e2,p2.trans p1⟩
end Stb
namespace L2
open PySem PySem.Spec PyProof.Rows Srt Stb
structure Ded (zs:List (Addr × List Int)) (xs:List (List Int × Addr)):Prop where
 nd:(xs.map (·.1)).Nodup
 of:∀ x ∈ xs,(x.2,x.1) ∈ zs
 all:∀ z ∈ zs,z.2 ∈ xs.map (·.1)
theorem items_ints {P:Program} {w:World}:∀ {ks:List Int} {us:List Value},Vals (ks.map V.int) us→ItemsAre (intKind P w) ks us
 | [],_,.nil => .nil
 | k :: ks,_,.cons r t => by
  obtain ⟨t',rfl⟩:=r
  exact .cons (intKind_is _ _ _ _) (items_ints t)
section
variable {X:Cx}
theorem tup_KAt {pins:List (Addr × Obj)} {σ:St} {H:Hp} {s:Shared} {a:Addr} {ks:List Int} (I:Inv X pins σ H s) (h:H a = some (.tup (ks.map V.int))):KAt X.prog X.w s.heap ks a:=by
 obtain ⟨_,its,rv,o,ho,hc,n,hd⟩:=(show ObjOk X.prog X.w H s.heap a (.tup _) from I.hok _ _ h)
 exact ⟨o,its.toArray,n,ho,hc,hd,items_ints rv⟩
end
noncomputable def upL (ks:List (List Int)):Bool:=decide (ks.Pairwise fun a b => HT.lexLt a b = true)
theorem same_up {ks rs:List (List Int)} (hk:ks.Pairwise fun a b => HT.lexLt a b = true) (hr:rs.Pairwise fun a b => HT.lexLt a b = true) (hm:∀ k,k ∈ ks ↔ k ∈ rs):ks = rs:=by
 induction ks generalizing rs with
 | nil =>
  cases rs with
  | nil => rfl
  | cons r rs => exact absurd ((hm r).mpr List.mem_cons_self) (by simp)
 | cons k ks ih =>
  cases rs with
  | nil => exact absurd ((hm k).mp List.mem_cons_self) (by simp)
  | cons r rs =>
   rw [List.pairwise_cons] at hk hr
   have e:k = r:=by
    rcases List.mem_cons.mp ((hm k).mp List.mem_cons_self) with e | h1
    ·exact e
    ·rcases List.mem_cons.mp ((hm r).mpr List.mem_cons_self) with e | h2
     ·exact e.symm
     ·have a:=hr.1 k h1
      have b:=hk.1 r h2
      have:=lex_tr a b
      rw [lex_irr] at this; cases this
   subst e
   rw [ih hk.2 hr.2 fun x => ?_]
   have nk:∀ x,x ∈ ks→x ≠ k:=fun x hx z => by subst z; have:=hk.1 x hx; rw [lex_irr] at this; cases this
   have nr:∀ x,x ∈ rs→x ≠ k:=fun x hx z => by subst z; have:=hr.1 x hx; rw [lex_irr] at this; cases this
   constructor
   ·intro hx
    rcases List.mem_cons.mp ((hm x).mp (List.mem_cons_of_mem _ hx)) with z | z
    ·exact absurd z (nk x hx)
    ·exact z
   ·intro hx
    rcases List.mem_cons.mp ((hm x).mpr (List.mem_cons_of_mem _ hx)) with z | z
    ·exact absurd z (nr x hx)
    ·exact z
theorem eq_sorted {zs zs':List (Addr × List Int)} {xs:List (List Int × Addr)} (d:Ded zs xs) (s:Sorted2 (xs.map fun x => (x.2,x.1)) zs'):decide (zs.map (·.2) = zs'.map (·.2)) = upL (zs.map (·.2)):=by
 have pm:(zs'.map (·.2)).Perm (xs.map (·.1)):=by
  have:=s.1.map (·.2)
  rw [List.map_map] at this
  exact this
 have nd:(zs'.map (·.2)).Nodup:=pm.nodup_iff.mpr d.nd
 have hr:(zs'.map (·.2)).Pairwise fun a b => HT.lexLt a b = true:=by
  rw [List.pairwise_map]
  have n2:zs'.Pairwise fun a b => a.2 ≠ b.2:=List.pairwise_map.mp nd
  refine (s.2.and n2).imp fun {a b} h => ?_
  cases z:HT.lexLt a.2 b.2 with
  | true => rfl
  | false => exact absurd (lex_tot z h.1) h.2
 unfold upL
 rw [decide_eq_decide]
 constructor
 ·intro e; rw [e]; exact hr
 ·intro hk
  refine same_up hk hr fun k => ?_
  rw [pm.mem_iff]
  constructor
  ·intro h
   obtain ⟨z,hz,rfl⟩:=List.mem_map.mp h
   exact d.all z hz
  ·intro h
   obtain ⟨x,hx,rfl⟩:=List.mem_map.mp h
   exact List.mem_map.mpr ⟨_,d.of x hx,rfl⟩
end L2
namespace Wlk
open PySem PyProof.Rows Srt Cyc Grd L2
theorem ltP_irr (a:Pl):¬ ltP a a:=fun z => by unfold ltP at z; rw [lex_irr] at z; cases z
theorem ltP_tr {a b c:Pl} (h1:ltP a b) (h2:ltP b c):ltP a c:=lex_tr h1 h2
theorem up_same {ks rs:List Pl} (hk:ks.Pairwise ltP) (hr:rs.Pairwise ltP) (hm:∀ k,k ∈ ks ↔ k ∈ rs):ks = rs:=by
 induction ks generalizing rs with
 | nil =>
  cases rs with
  | nil => rfl
  | cons r rs => exact absurd ((hm r).mpr List.mem_cons_self) (by simp)
 | cons k ks ih =>
  cases rs with
  | nil => exact absurd ((hm k).mp List.mem_cons_self) (by simp)
  | cons r rs =>
   rw [List.pairwise_cons] at hk hr
   have e:k = r:=by
    rcases List.mem_cons.mp ((hm k).mp List.mem_cons_self) with e | h1
    ·exact e
    ·rcases List.mem_cons.mp ((hm r).mpr List.mem_cons_self) with e | h2
     ·exact e.symm
     ·exact absurd (ltP_tr (hr.1 k h1) (hk.1 r h2)) (ltP_irr r)
   subst e
   rw [ih hk.2 hr.2 fun x => ?_]
   have nk:∀ x,x ∈ ks→x ≠ k:=fun x hx z => by subst z; exact ltP_irr x (hk.1 x hx)
   have nr:∀ x,x ∈ rs→x ≠ k:=fun x hx z => by subst z; exact ltP_irr x (hr.1 x hx)
   constructor
   ·intro hx
    rcases List.mem_cons.mp ((hm x).mp (List.mem_cons_of_mem _ hx)) with z | z
    ·exact absurd z (nk x hx)
    ·exact z
   ·intro hx
    rcases List.mem_cons.mp ((hm x).mpr (List.mem_cons_of_mem _ hx)) with z | z
    ·exact absurd z (nr x hx)
    ·exact z
theorem closed_rest {land C:List Pl} (h:Closed land C):Closed land (land.filter fun x => !decide (x ∈ C)):=fun x hx y hy hl => by
 rw [List.mem_filter] at hx ⊢
 refine ⟨hl,?_⟩
 have hx2:x ∉ C:=by simpa using hx.2
 by_cases e:y ∈ C
 ·exact absurd (h y e x (beside_sym hy) hx.1) hx2
 ·simpa using e
theorem mem_rest {land C:List Pl} {x:Pl}:x ∈ land.filter (fun x => !decide (x ∈ C)) ↔ x ∈ land∧x ∉ C:=by
 rw [List.mem_filter]; simp
theorem Piece.sub_of {land:List Pl} {s:Pl} {P R:List Pl} (p:Piece land s P) (r:Closed land R) (hs:s ∈ R):∀ x ∈ P,x ∈ R:=fun x hx => by
 refine Classical.byContradiction fun hn => ?_
 have:=p.min _ (closed_rest r) ⟨x,hx,mem_rest.mpr ⟨p.sub x hx,hn⟩⟩
 exact (mem_rest.mp this).2 hs
theorem Piece.uniq {land:List Pl} {s:Pl} {P R:List Pl} (p:Piece land s P) (r:Piece land s R):P = R :=
 up_same p.up r.up fun x => ⟨p.sub_of r.cl r.st x,r.sub_of p.cl p.st x⟩
theorem Piece.move {land:List Pl} {s t:Pl} {P:List Pl} (p:Piece land s P) (ht:t ∈ P):Piece land t P :=
 ⟨p.sub,ht,p.cl,fun C hC hx => by
  have hs:=p.min C hC hx
  refine Classical.byContradiction fun hn => ?_
  exact (mem_rest.mp (p.min _ (closed_rest hC) ⟨t,ht,mem_rest.mpr ⟨p.sub t ht,hn⟩⟩)).2 hs,p.up⟩
structure PcsO (land q:List Pl) (ps:List (List Pl)):Prop where
 all:∀ x ∈ q,∃ P ∈ ps,x ∈ P
 of:∀ P ∈ ps,∃ c ∈ q,Piece land c P∧P.head? = some c
 up:ps.Pairwise fun P R => HT.lexLt (fl P) (fl R) = true
theorem PcsO.nil (land:List Pl):PcsO land [] []:=⟨fun _ h => (List.not_mem_nil h).elim,fun _ h => (List.not_mem_nil h).elim,.nil⟩
theorem PcsO.old {land q:List Pl} {ps:List (List Pl)} (h:PcsO land q ps) {c:Pl} (hc:∃ P ∈ ps,c ∈ P):PcsO land (q ++ [c]) ps:=⟨fun x hx => by
 rcases List.mem_append.mp hx with y | y
 ·exact h.all x y
 ·rw [List.mem_singleton.mp y]; exact hc,fun P hP => let ⟨d,h1,h2⟩:=h.of P hP; ⟨d,List.mem_append_left _ h1,h2⟩,h.up⟩
theorem fl_lt {P R:List Pl} {c d:Pl} (hP:P.head? = some c) (hR:R.head? = some d) (h:ltP c d):HT.lexLt (fl P) (fl R) = true:=by
 cases P with
 | nil => cases hP
 | cons x P =>
  cases R with
  | nil => cases hR
  | cons y R =>
   cases hP; cases hR
   unfold ltP at h
   show HT.lexLt (c.1 :: c.2 :: fl P) (d.1 :: d.2 :: fl R) = true
   rw [HT.lexLt_cons,HT.lexLt_cons] at h ⊢
   by_cases e1:c.1 = d.1
   ·rw [if_pos e1] at h ⊢
    by_cases e2:c.2 = d.2
    ·rw [if_pos e2] at h; cases h
    ·rw [if_neg e2] at h ⊢; exact h
   ·rw [if_neg e1] at h ⊢; exact h
theorem PcsO.new {land q rest:List Pl} {ps:List (List Pl)} {c:Pl} {N:List Pl} (hl:land = q ++ c :: rest) (hu:land.Pairwise ltP) (h:PcsO land q ps) (hN:Piece land c N) (hc:∀ P ∈ ps,c ∉ P):PcsO land (q ++ [c]) (ps ++ [N]):=by
 rw [hl,List.pairwise_append] at hu
 have hq:∀ x ∈ q,ltP x c:=fun x hx => hu.2.2 x hx c List.mem_cons_self
 have hq2:∀ x ∈ land,ltP x c→x ∈ q:=fun x hx hlt => by
  rw [hl] at hx
  rcases List.mem_append.mp hx with y | y
  ·exact y
  ·rcases List.mem_cons.mp y with z | z
   ·subst z; exact absurd hlt (ltP_irr x)
   ·exact absurd (ltP_tr hlt ((List.pairwise_cons.mp hu.2.1).1 x z)) (ltP_irr x)
 have hd:N.head? = some c:=by
  cases N with
  | nil => cases hN.st
  | cons m N =>
   have hup:=hN.up
   rw [List.pairwise_cons] at hup
   rcases List.mem_cons.mp hN.st with e | e
   ·rw [e]; rfl
   ·have hm:m ∈ q:=hq2 m (hN.sub m List.mem_cons_self) (hup.1 c e)
    obtain ⟨P,hP,hmP⟩:=h.all m hm
    obtain ⟨d,_,pd,_⟩:=h.of P hP
    exact absurd (hN.min P pd.cl ⟨m,List.mem_cons_self,hmP⟩) (hc P hP)
 refine ⟨fun x hx => ?_,fun P hP => ?_,?_⟩
 ·rcases List.mem_append.mp hx with y | y
  ·obtain ⟨P,h1,h2⟩:=h.all x y
   exact ⟨P,List.mem_append_left _ h1,h2⟩
  ·rw [List.mem_singleton.mp y]
   exact ⟨N,List.mem_append_right _ List.mem_cons_self,hN.st⟩
 ·rcases List.mem_append.mp hP with y | y
  ·obtain ⟨d,h1,h2⟩:=h.of P y
   exact ⟨d,List.mem_append_left _ h1,h2⟩
  ·rw [List.mem_singleton.mp y]; exact ⟨c,List.mem_append_right _ List.mem_cons_self,hN,hd⟩
 ·rw [List.pairwise_append]
  refine ⟨h.up,List.pairwise_singleton _ _,fun P hP R hR => ?_⟩
  rw [List.mem_singleton.mp hR]
  obtain ⟨d,h1,_,h3⟩:=h.of P hP
  exact fl_lt h3 hd (hq d h1)
theorem PcsO.len {land q:List Pl} {ps:List (List Pl)} (h:PcsO land q ps):ps.length ≤ q.length:=by
 have nd:(ps.map fun P => P.head?).Nodup:=by
  refine List.pairwise_map.mpr (h.up.imp_of_mem fun {P R} hP hR hlt e => ?_)
  obtain ⟨c,_,pc,hc⟩:=h.of P hP
  obtain ⟨d,_,pd,hd⟩:=h.of R hR
  rw [hc,hd] at e
  cases e
  rw [pc.uniq pd,lex_irr] at hlt
  cases hlt
 have h1:=sub_len (xs:=ps.map fun P => P.head?) (ys:=q.map some) nd fun x hx => by
  obtain ⟨P,hP,rfl⟩:=List.mem_map.mp hx
  obtain ⟨c,hc,_,e⟩:=h.of P hP
  rw [e]; exact List.mem_map_of_mem hc
 simpa using h1
noncomputable def HangsIs (cs:List Pl) (b:Bool):Prop:=(cs = []∧b = false) ∨ ∃ c0 tl P0,cs = c0 :: tl∧Piece cs c0 P0∧b = decide (P0 = cs)
theorem hangs_pieces {cs:List Pl} {ps:List (List Pl)} {b:Bool} (hu:cs.Pairwise ltP) (h:PcsO cs cs ps) (hb:HangsIs cs b):b = decide (ps.length = 1):=by
 rcases hb with ⟨rfl,rfl⟩ | ⟨c0,tl,P0,e,p0,rfl⟩
 ·have:=h.len
  rw [List.length_nil] at this
  rw [decide_eq_false (by omega)]
 ·have hc0:c0 ∈ cs:=by rw [e]; exact List.mem_cons_self
  rw [decide_eq_decide]
  constructor
  ·intro eP
   have one:∀ P ∈ ps,P = cs:=fun P hP => by
    obtain ⟨c,hc,pc,_⟩:=h.of P hP
    rw [← eP]
    exact pc.uniq (p0.move (by rw [eP]; exact hc))
   obtain ⟨P,hP,_⟩:=h.all c0 hc0
   match ps,h.up,one with
   | [],_,_ => cases hP
   | [_],_,_ => rfl
   | A :: B :: r,up,one =>
    have:=(List.pairwise_cons.mp up).1 B List.mem_cons_self
    rw [one A List.mem_cons_self,one B (List.mem_cons_of_mem _ List.mem_cons_self),lex_irr] at this
    cases this
  ·intro h1
   match ps,h1,h with
   | [P],_,h =>
    obtain ⟨c,hc,pc,_⟩:=h.of P List.mem_cons_self
    have hall:∀ x ∈ cs,x ∈ P:=fun x hx => by
     obtain ⟨R,hR,hxR⟩:=h.all x hx
     rw [List.mem_singleton.mp hR] at hxR; exact hxR
    have eP:P = cs:=up_same pc.up hu fun x => ⟨pc.sub x,hall x⟩
    rw [← (pc.move (hall c0 hc0)).uniq p0,eP]
theorem pieces_sorted {cs:List Pl} {ps L:List (List Pl)} (h:PcsO cs cs ps) (hL:L.Pairwise fun P R => HT.lexLt (fl P) (fl R) = true) (h1:∀ P ∈ L,∃ c ∈ cs,Piece cs c P) (h2:∀ c ∈ cs,∃ P ∈ L,Piece cs c P):ps = L:=by
 have key:=same_up (ks:=ps.map fl) (rs:=L.map fl) (List.pairwise_map.mpr h.up) (List.pairwise_map.mpr hL) fun k => by
  constructor
  ·intro hk
   obtain ⟨P,hP,rfl⟩:=List.mem_map.mp hk
   obtain ⟨c,hc,pc,_⟩:=h.of P hP
   obtain ⟨R,hR,pr⟩:=h2 c hc
   rw [pc.uniq pr]; exact List.mem_map_of_mem hR
  ·intro hk
   obtain ⟨R,hR,rfl⟩:=List.mem_map.mp hk
   obtain ⟨c,hc,pr⟩:=h1 R hR
   obtain ⟨P,hP,hcP⟩:=h.all c hc
   obtain ⟨d,_,pd,_⟩:=h.of P hP
   rw [pr.uniq (pd.move hcP)]; exact List.mem_map_of_mem hP
 have inj:∀ l1 l2:List (List Pl),l1.map fl = l2.map fl→l1 = l2:=by
  intro l1
  induction l1 with
  | nil => intro l2 e; cases l2 with | nil => rfl | cons _ _ => cases e
  | cons b l1 ih =>
   intro l2 e
   cases l2 with
   | nil => cases e
   | cons c l2 => simp only [List.map_cons,List.cons.injEq] at e; rw [fl_inj e.1,ih l2 e.2]
 exact inj _ _ key
noncomputable def nextP (a b:Pl):Bool:=decide ((Int.natAbs (a.1 - b.1):Int) + Int.natAbs (a.2 - b.2) = 1)
theorem next_iff {a b:Pl}:nextP a b = true ↔ a ∈ beside b:=by
 obtain ⟨a1,a2⟩:=a
 obtain ⟨b1,b2⟩:=b
 unfold nextP beside
 simp only [decide_eq_true_eq,List.mem_cons,List.not_mem_nil,or_false,Prod.mk.injEq]
 omega
noncomputable def nb2 (land R:List Pl) (x:Pl):List Pl:=land.filter fun y => !decide (y ∈ R) && nextP y x
theorem mem_nb2 {land R:List Pl} {x y:Pl}:y ∈ nb2 land R x ↔ y ∈ beside x∧y ∈ land∧y ∉ R:=by
 unfold nb2
 rw [List.mem_filter,Bool.and_eq_true,next_iff]
 simp
 constructor
 ·rintro ⟨a,b,c⟩; exact ⟨c,a,b⟩
 ·rintro ⟨a,b,c⟩; exact ⟨b,c,a⟩
noncomputable def atRoad (g:Grid) (cs:List Pl):Bool:=cs.any fun c => (beside c).any fun d => decide (d ∈ gridF road g)
end Wlk
namespace L2
open PySem PySem.Spec PyProof.Rows
noncomputable def rSeqU (n:Nat) (g:Bool→Bool):R2:=fun x y H Q => ∃ p q xs ys,x = .ref p∧y = .ref q∧H p = some (.lst xs)∧H q = some (.lst ys)∧((xs.length ≠ ys.length∧Q (.bl (g false)) H) ∨ ∃ ks,E3 (EqD H n) xs ys ks∧Q (.bl (g (ks.all id))) H)
section
variable {X:Cx}
theorem op_eqU (n:Nat) (hu:X.A.units + n + 1 < cLine):OpR X (compareOp .Eq) (rSeqU n id):=by
 intro pins s σ H x y v u Q I rx ry h
 obtain ⟨p,q,xs,ys,rfl,rfl,h1,h2,h4⟩:=h
 rcases h4 with ⟨hne,hq⟩ | ⟨ks,h4,hq⟩
 ·cases rx
  cases ry
  ·obtain ⟨us,r1,p1,_⟩:=I.list (SqL.of (K:=X.K) h1)
   obtain ⟨ws,r2,p2,_⟩:=I.list (SqL.of (K:=X.K) h2)
   have l1:=r1.length
   have l2:=r2.length
   exact SeqAt.RcAt.lists_lengths (A:=X.A) (s:=s) p1.isList p2.isList (by simp; omega) (by omega) X.prog X.w X.xe _ ⟨.bl _,H,I,rfl,hq⟩
 ·exact op_eqD n hu pins s σ H _ _ v u Q I rx ry ⟨p,q,xs,ys,ks,rfl,rfl,.inr ⟨h1,h2⟩,h4,hq⟩
end
theorem e3_ints {H:Hp} {n:Nat}:∀ {a b:List Int},a.length = b.length→∃ ks,E3 (EqD H n) (a.map V.int) (b.map V.int) ks∧ks.all id = decide (a = b)
 | [],[],_ => ⟨[],trivial,rfl⟩
 | x :: a,y :: b,h => by
  obtain ⟨ks,h1,h2⟩:=e3_ints (H:=H) (n:=n) (a:=a) (b:=b) (by simpa using h)
  have f:EqF (.int x) (.int y) (decide (x = y)):=.inl ⟨x,y,rfl,rfl,rfl⟩
  refine ⟨decide (x = y) :: ks,⟨by cases n with | zero => exact f | succ n => exact .inl f,h1⟩,?_⟩
  rw [List.all_cons,h2,Bool.eq_iff_iff]
  simp
 | [],_ :: _,h => by simp at h
 | _ :: _,[],h => by simp at h
theorem e3_rows {H:Hp} {n m:Nat}:∀ {zs zs':List (Addr × List Int)},zs.length = zs'.length→(∀ z ∈ zs,H z.1 = some (.tup (z.2.map V.int))∧z.2.length = m)→(∀ z ∈ zs',H z.1 = some (.tup (z.2.map V.int))∧z.2.length = m) →
  ∃ ks,E3 (EqD H (n + 1)) (zs.map fun z => V.ref z.1) (zs'.map fun z => V.ref z.1) ks∧ks.all id = decide (zs.map (·.2) = zs'.map (·.2))
 | [],[],_,_,_ => ⟨[],trivial,rfl⟩
 | x :: a,y :: b,h,hx,hy => by
  obtain ⟨ks,h1,h2⟩:=e3_rows (H:=H) (n:=n) (m:=m) (zs:=a) (zs':=b) (by simpa using h) (fun z hz => hx z (List.mem_cons_of_mem _ hz)) (fun z hz => hy z (List.mem_cons_of_mem _ hz))
  obtain ⟨x1,x2⟩:=hx x List.mem_cons_self
  obtain ⟨y1,y2⟩:=hy y List.mem_cons_self
  obtain ⟨js,j1,j2⟩:=e3_ints (H:=H) (n:=n) (a:=x.2) (b:=y.2) (by rw [x2,y2])
  refine ⟨decide (x.2 = y.2) :: ks,⟨.inr ⟨x.1,y.1,_,_,js,rfl,rfl,.inl ⟨x1,y1⟩,j1,j2.symm⟩,h1⟩,?_⟩
  rw [List.all_cons,h2,Bool.eq_iff_iff]
  simp
 | [],_ :: _,h,_,_ => by simp at h
 | _ :: _,[],h,_,_ => by simp at h
end L2
namespace L2
open PySem PySem.Spec PyProof.Rows Srt
theorem eq_lists {α:Type} [DecidableEq α] (d:α) (cs ds:List α):((List.range (min cs.length ds.length)).all (fun j => decide (cs.getD j d = ds.getD j d)) && cs.length == ds.length) = decide (cs = ds):=by
 rw [Bool.eq_iff_iff,Bool.and_eq_true,List.all_eq_true,decide_eq_true_eq,beq_iff_eq]
 constructor
 ·rintro ⟨h1,h2⟩
  refine List.ext_getElem h2 fun j a b => ?_
  have:=of_decide_eq_true (h1 j (List.mem_range.mpr (by omega)))
  simpa [a,b] using this
 ·rintro rfl
  exact ⟨fun j _ => decide_eq_true rfl,rfl⟩
section
variable {X:Cx}
theorem op_eqTP (hu:X.A.units + 2 < cLine):OpR X (compareOp .Eq) (fun x y H Q => ∃ p q cs ds,x = .ref p∧y = .ref q∧SqA H p cs∧SqA H q ds∧Q (.bl (decide (cs = ds))) H):=by
 intro pins s σ H x y v u Q I rx ry h
 obtain ⟨p,q,cs,ds,rfl,rfl,⟨ps,h1,hP⟩,⟨qs,h2,hQ⟩,hq⟩:=h
 cases rx
 cases ry
 obtain ⟨us,r1,p1,_⟩:=I.tuple (SqT.of (K:=X.K) h1)
 obtain ⟨ws,r2,p2,_⟩:=I.tuple (SqT.of (K:=X.K) h2)
 have e1:=refs_of r1
 have e2:=refs_of r2
 subst e1 e2
 have l1:ps.length = cs.length:=Paired.length hP
 have l2:qs.length = ds.length:=Paired.length hQ
 have k:=SeqAt.RcAt.tuples (A:=X.A) (s:=s) (e:=fun j => decide (cs.getD j (0,0) = ds.getD j (0,0))) p1 p2 (by omega) (fun j g1 g2 => by
  rw [List.size_toArray,List.length_map] at g1 g2
  obtain ⟨c,hc,he⟩:=hP.at (List.getElem?_eq_getElem g1)
  obtain ⟨d,hd,he2⟩:=hQ.at (List.getElem?_eq_getElem g2)
  have ec:cs.getD j (0,0) = c:=by rw [List.getD_eq_getElem?_getD,hc]; rfl
  have ed:ds.getD j (0,0) = d:=by rw [List.getD_eq_getElem?_getD,hd]; rfl
  rw [ec,ed]
  have a1:(ps.map Value.ref).toArray[j]'(by rw [List.size_toArray,List.length_map]; exact g1) = Value.ref ps[j]:=by simp
  have a2:(qs.map Value.ref).toArray[j]'(by rw [List.size_toArray,List.length_map]; exact g2) = Value.ref qs[j]:=by simp
  rw [a1,a2]
  exact eq_place I (show X.A.units + 1 < cLine by omega) he he2)
 have e:((List.range (min (ps.map Value.ref).toArray.size (qs.map Value.ref).toArray.size)).all (fun j => decide (cs.getD j (0,0) = ds.getD j (0,0))) && (ps.map Value.ref).toArray.size == (qs.map Value.ref).toArray.size) = decide (cs = ds):=by
  rw [List.size_toArray,List.size_toArray,List.length_map,List.length_map,l1,l2]
  exact eq_lists (0,0) cs ds
 rw [e] at k
 exact k X.prog X.w X.xe _ ⟨.bl _,H,I,rfl,hq⟩
theorem op_neT1 (hu:X.A.units + 1 < cLine):OpR X (compareOp .NotEq) (fun x y H Q => ∃ p q xs,x = .ref p∧y = .ref q∧H p = some (.tup xs)∧H q = some (.tup [])∧Q (.bl (!xs.isEmpty)) H):=by
 intro pins s σ H x y v u Q I rx ry h
 obtain ⟨p,q,xs,rfl,rfl,h1,h2,hq⟩:=h
 cases rx
 cases ry
 obtain ⟨us,r1,p1,_⟩:=I.tuple (SqT.of (K:=X.K) h1)
 obtain ⟨ws,r2,p2,_⟩:=I.tuple (SqT.of (K:=X.K) h2)
 have e2:ws = []:=by cases r2; rfl
 subst e2
 have l1:=r1.length
 have k:=SeqAt.RcNeAt.tuples (A:=X.A) (s:=s) (e:=fun _ => true) p1 p2 (by omega) (fun j _ h2 => absurd h2 (by simp))
 have e:(!((List.range (min us.toArray.size ([]:List Value).toArray.size)).all (fun _ => true) && us.toArray.size == ([]:List Value).toArray.size)) = !xs.isEmpty:=by
  cases xs with
  | nil => cases us with | nil => rfl | cons _ _ => simp at l1
  | cons _ _ => cases us with | nil => simp at l1 | cons _ _ => simp
 rw [e] at k
 exact k X.prog X.w X.xe _ ⟨.bl _,H,I,rfl,hq⟩
end
end L2
namespace M43
open PySem L2 PyProof.Rows Grd Wlk Cyc Srt
noncomputable abbrev sOne:Stmt:=top 32
noncomputable abbrev sHangs:Stmt:=top 33
theorem boot_any:bootBuiltins "any" = some (.builtin "any"):=by decide +kernel
theorem any_eqP (l:List (Int × Int)) (x:Int × Int):(l.map fun c => decide (c = x)).any id = decide (x ∈ l):=by
 rw [Bool.eq_iff_iff,List.any_map]
 simp
noncomputable def spLand (C:Addr) (R:Hp→Grid→Addr→List Pl→VK→Prop):Sp:=fun vs H Q E => ∃ a g w v,vs = [.ref a,v]∧GridAt H a g∧Good g w∧Kn H 3 v∧(∀ t cs,v = .ref t→SqA H t cs→LandOf g cs→R H g t cs Q)∧(landV H g v = false→∀ H',Same H H'→E (.ref C) none H')
noncomputable def tlPieces (H:Hp) (_:Grid) (_:Addr) (cs:List Pl) (Q:VK):Prop:=∀ l ps H',H l = none→Same H H'→WkL H' l ps→PcsO cs cs ps→Q (.ref l) H'
noncomputable def tlHangs (H:Hp) (_:Grid) (_:Addr) (cs:List Pl) (Q:VK):Prop:=∀ b H',Same H H'→HangsIs cs b→Q (.bl b) H'
noncomputable def spOne:Sp:=fun vs H Q _ => ∃ t cs,vs = [.ref t]∧SqA H t cs∧cs.length ≤ 10∧∀ b H',Same H H'→HangsIs cs b→Q (.bl b) H'
section
variable {P:Program} {w:World} {K:PySem.W.Frag} {mg:Str→Option Value} {base:Heap}
noncomputable abbrev nPs:List Str:=["mead","land","pieces","cell"]
theorem scPieces:FnScope nPs ["mead","land"] (defScope sPieces):=⟨rfl,rfl,rfl,by decide +kernel,rfl,by decide +kernel,by decide +kernel⟩
theorem ndPs:(["piece","cell"]:List Str).Nodup:=by decide +kernel
theorem ok_pieces {f g1 g2:Addr} {fd d1 d2:FuncData} (F:Fun K "pieces_of" "pieces_of" sPieces f fd) {C:Addr} (T2:Txt2 mg) (a1:At P w K mg base (CX1 P w) 7 "check_land" g1 d1 ["mead","land"] (spChkLand C)) (a2:At P w K mg base CX0 2 "piece_round" g2 d2 ["land","start"] spPieceR):FnOk P w K mg base (CX1 P w) 8 f fd ["mead","land"] (spLand C tlPieces):=by
 refine F.okX scPieces (fun vs H Q E h => ?_) (fun cdv A outer s H vs Q E hr h => ?_)
 ·obtain ⟨a,g,w',v,rfl,_⟩:=h; rfl
 ·obtain ⟨a,g,w',v,rfl,hA,G,kn,qq,qe⟩:=h
  have nd:=scPieces.nd
  refine ⟨_,pss_cons (ps_expr (pe_call a1.ok hr rfl a1.nm a1.kp a1.bd .nil pass1 (pa_v (pv 0) (pa_v (pv 1) pa_nil)))) <|
   pss_cons (ps_set (i:=2) nd rfl (Or.inl rfl) (pe_lst pa_nil)) <|
   pss_cons (ps_for PassesOwn.leaving rfl (pi_tup (pv 1)) (pg_name (i:=3) nd rfl (Or.inr rfl))
    (pss_one (ps_if (pt_not (pt_val (pe_callB (call_any rfl) rfl T2.any boot_any (pa_lc (pe_comp1 (defScope sPieces).names nPs ["piece"] [("cell",3)] rfl (pi_list (pv 2)) rfl rfl rfl (by decide +kernel)
      (fun Z => pg_name (i:=0) ndPs rfl (Or.inl rfl)) (fun Z => pts_nil) (fun Z => pe_cmpR (op_inD 1 (hu1_of hr)) (pv 1) (pv 0) rfl)) pa_nil))))
     (pss_one (ps_expr (pe_bm PySem.F.plainAttrs_list PySem.F.slot_list_append PySem.F.type_list_append mt_append (pv 2) (pa_k (pe_call a2.ok (hr.mono (by decide)) rfl a2.nm a2.kp a2.bd .nil pass0 (pa_v (pv 1) (pa_v (pv 3) pa_nil))) pa_nil)))) pss_nil))) <|
   pss_one (ps_ret (pv 2)),?_⟩
  refine ⟨_,rfl,_,rfl,a,g,w',v,rfl,hA,G,kn,fun hV H1 s1 => ?_,qe⟩
  obtain ⟨t,cs,rfl,hT,hL⟩:=land_of hV
  have h10:=LandOf.len G hL
  have hup:=(gridF_up pos g).sublist hL
  have q:=qq t cs rfl hT hL
  refine ⟨by show 0 ≤ sizeLine; decide,fun lp hlp => ?_⟩
  have s2:=same_upd (o:=.lst []) hlp
  have hT1:=hT.same s1
  obtain ⟨ts,ht,hP⟩:=id hT1
  have htl:ts.length = cs.length:=Paired.length hP
  refine ⟨_,rfl,t,rfl,⟨_,SqT.of (s2 _ _ ht)⟩,?_⟩
  refine for_tup (K:=K) (a:=t) (xs:=ts.map V.ref) (fun i σ H' => (∃ o,σ = [some (.ref a),some (.ref t),some (.ref lp),o])∧Same H1 H'∧∃ ws ps,H' lp = some (.lst ((ws:List Addr).map V.ref))∧WkP H' ws ps∧PcsO cs (cs.take i) ps)
   ⟨⟨_,rfl⟩,s2,[],[],upd_same,.nil,PcsO.nil _⟩ (fun i σ H' _ h => SqT.of (h.2.1 _ _ ht)) ?_ ?_
  ·rintro i x σ H' hx ⟨⟨o,rfl⟩,hs,ws,ps,hlp',hW,pc⟩
   obtain ⟨p,hp,rfl⟩:=getR hx
   obtain ⟨c,hc,he⟩:=hP.at hp
   have hi:i < ts.length:=(List.getElem?_eq_some_iff.mp hp).1
   have hwl:ws.length = ps.length:=Paired.length hW
   have hpl:ps.length ≤ 10:=by have:=pc.len; rw [List.length_take] at this; omega
   have et:cs.take (i + 1) = cs.take i ++ [c]:=by rw [List.take_succ,hc]; rfl
   rw [et]
   refine ⟨_,rfl,lp,rfl,⟨_,SqL.of hlp'⟩,fun Z l hl => ?_⟩
   refine for_list (K:=K) (a:=lp) (xs:=ws.map V.ref) (fun j σ H2 => (∃ o,σ = [o,some (.ref p)])∧Same H' H2∧H2 l = some (.lst ((ps.take j).map fun R => V.bl (decide (c ∈ R))))) ⟨⟨_,rfl⟩,same_upd hl,by rw [upd_same]; rfl⟩ (fun j σ H2 _ h => SqL.of (h.2.1 _ _ hlp')) ?_ ?_
   ·rintro j y σ H2 hy ⟨⟨o',rfl⟩,hs2,hl2⟩
    obtain ⟨q1,hq1,rfl⟩:=getR hy
    obtain ⟨R,hR,rs,hrs,hRP⟩:=WkP.at hW hq1
    have hj:j < ws.length:=(List.getElem?_eq_some_iff.mp hq1).1
    show tBodyC _ _ _ [some (.ref q1),some (.ref p)] H2
    refine ⟨_,rfl,_,rfl,q1,_,_,rfl,.inl (hs2 _ _ hrs),e3Pl (hs2 _ _ (hs _ _ he)) (hRP.same hs2),?_⟩
    rw [any_eqP]
    refine ⟨_,hl2,small1000 (by rw [List.length_map,List.length_take]; omega),⟨_,rfl⟩,fun b' u e' => ?_,?_⟩
    ·rw [upd_ne (ne_of_none e' hl)]; exact hs2 _ _ e'
    ·rw [upd_same,List.take_succ,hR,List.map_append]; rfl
   ·rintro σ H2 ⟨_,hs2,hl2⟩
    rw [List.length_map,hwl,List.take_of_length_le (Nat.le_refl _)] at hl2
    refine ⟨l,ps.map fun R => decide (c ∈ R),rfl,SqL.of (by rw [hl2,List.map_map]; rfl),_,rfl,?_⟩
    refine iteB (fun z' => ?_) fun z' => ?_
    ·have z:∀ R ∈ ps,c ∉ R:=fun R hR hcR => by
      have:(ps.map fun R => decide (c ∈ R)).any id = true:=List.any_eq_true.mpr ⟨true,List.mem_map.mpr ⟨R,hR,decide_eq_true hcR⟩,rfl⟩
      rw [this] at z'; cases z'
     refine ⟨_,rfl,.inl ⟨rfl,_,SqL.of (hs2 _ _ hlp')⟩,?_⟩
     have hcc:c ∈ cs:=List.mem_of_getElem? hc
     refine ⟨_,rfl,_,rfl,t,p,cs,c,rfl,hT1.same (hs.trans hs2),h10,hs2 _ _ (hs _ _ he),hcc,fun t' N H3 s3 hN pN => ?_⟩
     have hlp3:=s3 _ _ (hs2 _ _ hlp')
     refine ⟨lp,_,_,rfl,rfl,hlp3,small1000 (by rw [List.length_map]; omega),?_⟩
     refine ⟨⟨_,rfl⟩,fun b' u e' => ?_,ws ++ [t'],ps ++ [N],?_,?_,PcsO.new (rest:=cs.drop (i + 1)) (by have:=List.take_append_drop (i + 1) cs; rw [et,List.append_assoc] at this; exact this.symm) hup pc pN z⟩
     ·rw [upd_ne (ne_of_none e' hlp)]; exact s3 _ _ (hs2 _ _ (hs _ _ e'))
     ·rw [upd_same,List.map_append]; rfl
     ·exact Paired.snoc (Paired.mapP hW fun _ _ z => sqPut hlp3 ((z.same hs2).same s3)) (sqPut hlp3 hN)
    ·have z:∃ R ∈ ps,c ∈ R:=by
      have:(ps.map fun R => decide (c ∈ R)).any id = true:=by simpa using z'
      obtain ⟨b,hb,e⟩:=List.any_eq_true.mp this
      obtain ⟨R,hR,e'⟩:=List.mem_map.mp hb
      exact ⟨R,hR,of_decide_eq_true (e'.trans e)⟩
     exact ⟨⟨_,rfl⟩,hs.trans hs2,ws,ps,hs2 _ _ hlp',Paired.mapP hW fun _ _ z => z.same hs2,pc.old z⟩
  ·rintro σ H' ⟨⟨o,rfl⟩,hs,ws,ps,hlp',hW,pc⟩
   rw [List.length_map,htl,List.take_of_length_le (Nat.le_refl _)] at pc
   exact ⟨_,rfl,q lp ps H' (s1.free hlp) (s1.trans hs) ⟨ws,hlp',hW⟩ pc⟩
theorem scOne:FnScope ["land"] ["land"] (defScope sOne):=⟨rfl,rfl,rfl,by decide +kernel,rfl,by decide +kernel,by decide +kernel⟩
theorem ok_one {f g1:Addr} {fd d1:FuncData} (F:Fun K "is_one_piece" "is_one_piece" sOne f fd) (a1:At P w K mg base CX0 2 "piece_round" g1 d1 ["land","start"] spPieceR):FnOk P w K mg base CX0 3 f fd ["land"] spOne:=by
 refine F.ok scOne (fun vs H Q E h => ?_) (fun cdv A outer s H vs Q E hr h => ?_)
 ·obtain ⟨t,cs,rfl,_⟩:=h; rfl
 ·obtain ⟨t,cs,rfl,hT,h10,q⟩:=h
  obtain ⟨ps,ht,hP⟩:=id hT
  have hlen:ps.length = cs.length:=Paired.length hP
  refine ⟨_,pss_one (ps_ret (pe_and (pe_cmpR (op_neT1 (Nat.lt_of_succ_lt (hu1_of hr))) (pv 0) (pe_tup pa_nil) (nomark _)) (pe_one (pe_cmpR (op_eqTP (hu1_of hr)) (pe_call a1.ok hr rfl a1.nm a1.kp a1.bd .nil pass0 (pa_v (pv 0) (pa_s (pe_ix ix_tup (pv 0) pe_int (fun _ _ => rfl)) pa_nil))) (pv 0) (nomark _))))),?_⟩
  refine ⟨_,rfl,by show 0 ≤ sizeLine; decide,fun z hz => ?_⟩
  have s1:=same_upd (o:=.tup []) hz
  refine ⟨t,z,_,rfl,rfl,s1 _ _ ht,upd_same,_,rfl,?_⟩
  cases hc:cs with
  | nil =>
   have e:ps = []:=List.eq_nil_of_length_eq_zero (by rw [hlen,hc]; rfl)
   subst e
   exact q false _ s1 (.inl ⟨hc,rfl⟩)
  | cons c0 tl =>
   rw [hc] at hP
   cases hP with
   | cons r0 t0 =>
    rename_i p0 ps0
    refine iteT ?_
    refine ⟨_,rfl,_,rfl,t,_,0,.ref p0,rfl,rfl,SqT.of (s1 _ _ ht),atI_nat (j:=0) rfl,?_⟩
    refine ⟨t,p0,cs,c0,rfl,hT.same s1,h10,s1 _ _ r0,by rw [hc]; exact List.mem_cons_self,fun t' P0 H2 s2 hP0 p0 => ?_⟩
    refine ⟨_,rfl,t',t,P0,cs,rfl,rfl,hP0,hT.same (s1.trans s2),?_⟩
    exact q _ H2 (s1.trans s2) (.inr ⟨c0,tl,P0,hc,p0,rfl⟩)
theorem scHangs:FnScope ["mead","land"] ["mead","land"] (defScope sHangs):=⟨rfl,rfl,rfl,by decide +kernel,rfl,by decide +kernel,by decide +kernel⟩
theorem ok_hangs {f g1 g2 C:Addr} {fd d1 d2:FuncData} (F:Fun K "hangs_together" "hangs_together" sHangs f fd) (a1:At P w K mg base (CX1 P w) 7 "check_land" g1 d1 ["mead","land"] (spChkLand C)) (a2:At P w K mg base CX0 3 "is_one_piece" g2 d2 ["land"] spOne):FnOk P w K mg base (CX1 P w) 8 f fd ["mead","land"] (spLand C tlHangs):=by
 refine F.okX scHangs (fun vs H Q E h => ?_) (fun cdv A outer s H vs Q E hr h => ?_)
 ·obtain ⟨a,g,w',v,rfl,_⟩:=h; rfl
 ·obtain ⟨a,g,w',v,rfl,hA,G,kn,qq,qe⟩:=h
  refine ⟨_,pss_cons (ps_expr (pe_call a1.ok hr rfl a1.nm a1.kp a1.bd .nil pass1 (pa_v (pv 0) (pa_v (pv 1) pa_nil)))) <|
   pss_one (ps_ret (pe_call a2.ok (hr.mono (by decide)) rfl a2.nm a2.kp a2.bd .nil pass0 (pa_v (pv 1) pa_nil))),?_⟩
  refine ⟨_,rfl,_,rfl,a,g,w',v,rfl,hA,G,kn,fun hV H1 s1 => ?_,qe⟩
  obtain ⟨t,cs,rfl,hT,hL⟩:=land_of hV
  exact ⟨_,rfl,t,cs,rfl,hT.same s1,LandOf.len G hL,fun b H2 s2 hb => qq t cs rfl hT hL b H2 (s1.trans s2) hb⟩
end
end M43
namespace M43
open PySem L2 PyProof.Rows Grd Wlk Cyc Srt
noncomputable abbrev sCRoad:Stmt:=top 34
noncomputable abbrev sSome:Stmt:=top 35
noncomputable abbrev sAtRoad:Stmt:=top 36
noncomputable abbrev sWorthOf:Stmt:=top 37
noncomputable abbrev sLWorth:Stmt:=top 49
noncomputable def worthP (g:Grid) (cs:List Pl):Int:=(cs.map (atG g)).sum
noncomputable def nearRoad (g:Grid) (c:Pl):Bool:=(beside c).any fun d => decide (d ∈ gridF road g)
noncomputable def tlRoad (H:Hp) (g:Grid) (_:Addr) (cs:List Pl) (Q:VK):Prop:=∀ H',Same H H'→Q (.bl (atRoad g cs)) H'
noncomputable def tlWorth (H:Hp) (g:Grid) (_:Addr) (cs:List Pl) (Q:VK):Prop:=∀ H',Same H H'→Q (.int (worthP g cs)) H'
noncomputable def spCRoad:Sp:=fun vs H Q _ => ∃ a g w,vs = [.ref a]∧GridAt H a g∧Good g w∧∀ H' l ps,H l = none→Same H H'→H' l = some (.lst ((ps:List Addr).map V.ref))→PlAt H' ps ((gridF pos g).filter (nearRoad g))→Q (.ref l) H'
noncomputable def spSome:Sp:=fun vs H Q _ => ∃ t l cs ps ds,vs = [.ref t,.ref l]∧SqA H t cs∧cs.length ≤ 1000∧H l = some (.lst ((ps:List Addr).map V.ref))∧PlAt H ps ds∧∀ H',Same H H'→Q (.bl (cs.any fun c => decide (c ∈ ds))) H'
noncomputable def spWTogT:Sp:=fun vs H Q _ => ∃ a t g w cs,vs = [.ref a,.ref t]∧GridAt H a g∧Good g w∧SqA H t cs∧LandOf g cs∧∀ H',Same H H'→Q (.int (worthP g cs)) H'
section
variable {P:Program} {w:World} {K:PySem.W.Frag} {mg:Str→Option Value} {base:Heap}
theorem scSome:FnScope ["land","cells"] ["land","cells"] (defScope sSome):=⟨rfl,rfl,rfl,by decide +kernel,rfl,by decide +kernel,by decide +kernel⟩
theorem ndCC:(["cell","cells"]:List Str).Nodup:=by decide +kernel
theorem ok_some {f:Addr} {fd:FuncData} (F:Fun K "has_some_of" "has_some_of" sSome f fd) (T2:Txt2 mg):FnOk P w K mg base CX0 1 f fd ["land","cells"] spSome:=by
 refine F.ok scSome (fun vs H Q E h => ?_) (fun cdv A outer s H vs Q E hr h => ?_)
 ·obtain ⟨t,l,cs,ps,ds,rfl,_⟩:=h; rfl
 ·obtain ⟨t,lc,cs,qs,ds,rfl,⟨ps,ht,hP⟩,hz,hlc,hD,q⟩:=h
  have hlen:ps.length = cs.length:=Paired.length hP
  refine ⟨_,pss_one (ps_ret (pe_callB (call_any rfl) rfl T2.any boot_any (pa_lc (pe_comp1 (defScope sSome).names ["land","cells"] ["cell"] [("cells",1)] rfl (pi_tup (pv 0)) rfl rfl rfl (by decide +kernel)
   (fun Z => pg_name (i:=0) ndCC rfl (Or.inl rfl)) (fun Z => pts_nil) (fun Z => pe_cmpR (op_inD 1 (hu1_of hr)) (pv 0) (pv 1) rfl)) pa_nil))),?_⟩
  refine ⟨_,rfl,t,rfl,⟨_,SqT.of ht⟩,fun Z l hl => ?_⟩
  refine for_tup (K:=K) (a:=t) (xs:=ps.map V.ref) (fun i σ H' => (∃ o,σ = [o,some (.ref lc)])∧Same H H'∧H' l = some (.lst ((cs.take i).map fun c => V.bl (decide (c ∈ ds))))) ⟨⟨_,rfl⟩,same_upd hl,by rw [upd_same]; rfl⟩ (fun i σ H' _ h => SqT.of (h.2.1 _ _ ht)) ?_ ?_
  ·rintro i x σ H' hx ⟨⟨o,rfl⟩,hs,hl'⟩
   obtain ⟨p,hp,rfl⟩:=getR hx
   obtain ⟨c,hc,he⟩:=hP.at hp
   have hi:i < cs.length:=(List.getElem?_eq_some_iff.mp hc).1
   show tBodyC _ _ _ [some (.ref p),some (.ref lc)] H'
   refine ⟨_,rfl,_,rfl,lc,_,_,rfl,.inr (hs _ _ hlc),e3Pl (hs _ _ he) (hD.same hs),?_⟩
   rw [any_eqP]
   refine ⟨_,hl',small1000 (by rw [List.length_map,List.length_take]; omega),⟨_,rfl⟩,fun b' u e' => ?_,?_⟩
   ·rw [upd_ne (ne_of_none e' hl)]; exact hs _ _ e'
   ·rw [upd_same,List.take_succ,hc,List.map_append]; rfl
  ·rintro σ H' ⟨_,hs,hl'⟩
   rw [List.length_map,hlen,List.take_of_length_le (Nat.le_refl _)] at hl'
   refine ⟨l,cs.map fun c => decide (c ∈ ds),rfl,SqL.of (by rw [hl',List.map_map]; rfl),?_⟩
   have e:(cs.map fun c => decide (c ∈ ds)).any id = cs.any fun c => decide (c ∈ ds):=by rw [List.any_map]; rfl
   rw [e]
   exact q H' hs
theorem scCRoad:FnScope ["mead","roads"] ["mead"] (defScope sCRoad):=⟨rfl,rfl,rfl,by decide +kernel,rfl,by decide +kernel,by decide +kernel⟩
theorem ndCR:(["cell","roads"]:List Str).Nodup:=by decide +kernel
theorem ndPR:(["place","roads"]:List Str).Nodup:=by decide +kernel
theorem ok_cRoad {f g1 g2 g3:Addr} {fd d1 d2 d3:FuncData} (F:Fun K "cells_at_road" "cells_at_road" sCRoad f fd) (T2:Txt2 mg) (a1:At P w K mg base CX0 6 "roads_of" g1 d1 ["mead"] (spGrid road)) (a2:At P w K mg base CX0 6 "cells_of" g2 d2 ["mead"] (spGrid pos)) (a3:At P w K mg base CX0 1 "places_beside" g3 d3 ["place"] spBeside):FnOk P w K mg base CX0 7 f fd ["mead"] spCRoad:=by
 refine F.ok scCRoad (fun vs H Q E h => ?_) (fun cdv A outer s H vs Q E hr h => ?_)
 ·obtain ⟨a,g,w',rfl,_⟩:=h; rfl
 ·obtain ⟨a,g,w',rfl,hA,G,q⟩:=h
  have nd:=scCRoad.nd
  refine ⟨_,pss_cons (ps_set (i:=1) nd rfl (Or.inr rfl) (pe_call a1.ok hr rfl a1.nm a1.kp a1.bd .nil pass0 (pa_v (pv 0) pa_nil))) <|
   pss_one (ps_ret (pe_comp1 (defScope sCRoad).names ["mead","roads"] ["cell"] [("roads",1)] rfl (pi_list (pe_call a2.ok hr rfl a2.nm a2.kp a2.bd .nil pass0 (pa_v (pv 0) pa_nil))) rfl rfl rfl (by decide +kernel)
    (fun Z => pg_name (i:=0) ndCR rfl (Or.inl rfl)) (fun Z => pts_one (pt_val (pe_callB (call_any rfl) rfl T2.any boot_any (pa_lc (pe_comp1 [(".0",.local),("cell",.local),("any",.globalImplicit),("places_beside",.globalImplicit),("roads",.cell)] ["cell","roads"] ["place"] [("roads",1)] rfl (pi_list (pe_call a3.ok (hr.mono (by decide)) rfl a3.nm a3.kp a3.bd .nil pass0 (pa_v (pv 0) pa_nil))) rfl rfl rfl (by decide +kernel)
      (fun Z => pg_name (i:=0) ndPR rfl (Or.inl rfl)) (fun Z => pts_nil) (fun Z => pe_cmpR (op_inD 1 (hu1_of hr)) (pv 0) (pv 1) rfl)) pa_nil)))) (fun Z => pv 0))),?_⟩
  refine ⟨_,rfl,a,g,w',rfl,hA,G,fun H1 lr rs hlr s1 hlr' hR => ?_⟩
  refine ⟨_,rfl,a,g,w',rfl,hA.same s1,G,fun H2 lc cs hlc s2 hlc' hC => ?_⟩
  refine ⟨lc,rfl,⟨_,SqL.of hlc'⟩,fun Z l hl => ?_⟩
  have hcl:cs.length = (gridF pos g).length:=Paired.length hC
  have h10:(gridF pos g).length ≤ 10:=by rw [len_cells]; exact G.c10
  have hlr2:=s2 _ _ hlr'
  have hR2:=hR.same s2
  refine for_list (K:=K) (a:=lc) (xs:=cs.map V.ref) (fun i σ H' => (∃ o,σ = [o,some (.ref lr)])∧Same H2 H'∧∃ ns,H' l = some (.lst ((ns:List Addr).map V.ref))∧PlAt H' ns (((gridF pos g).take i).filter (nearRoad g))) ⟨⟨_,rfl⟩,same_upd hl,[],by rw [upd_same]; rfl,.nil⟩ (fun i σ H' _ h => SqL.of (h.2.1 _ _ hlc')) ?_ ?_
  ·rintro i x σ H' hx ⟨⟨o,rfl⟩,hs,ns,hn,hN⟩
   obtain ⟨p,hp,rfl⟩:=getR hx
   obtain ⟨c,hc,he⟩:=hC.at hp
   have hi:i < (gridF pos g).length:=(List.getElem?_eq_some_iff.mp hc).1
   have hnl:ns.length ≤ 10:=by
    have h1:ns.length = _:=Paired.length hN
    have h2:=List.length_filter_le (nearRoad g) ((gridF pos g).take i)
    rw [List.length_take] at h2; omega
   have et:((gridF pos g).take (i + 1)).filter (nearRoad g) = ((gridF pos g).take i).filter (nearRoad g) ++ (if nearRoad g c = true then [c] else []):=by
    rw [List.take_succ,hc,List.filter_append]
    congr 1
    cases e:nearRoad g c
    ·simp [e]
    ·simp [e]
   rw [et]
   show tBodyC _ _ _ [some (.ref p),some (.ref lr)] H'
   refine ⟨_,rfl,p,c,rfl,hs _ _ he,fun lb bs H3 hlb s3 hlb3 hB => ?_⟩
   have hb4:bs.length = (beside c).length:=Paired.length hB
   refine ⟨lb,rfl,⟨_,SqL.of hlb3⟩,fun Z l2 hl2 => ?_⟩
   refine for_list (K:=K) (a:=lb) (xs:=bs.map V.ref) (fun j σ H4 => (∃ o,σ = [o,some (.ref lr)])∧Same H3 H4∧H4 l2 = some (.lst (((beside c).take j).map fun d => V.bl (decide (d ∈ gridF road g))))) ⟨⟨_,rfl⟩,same_upd hl2,by rw [upd_same]; rfl⟩ (fun j σ H4 _ h => SqL.of (h.2.1 _ _ hlb3)) ?_ ?_
   ·rintro j y σ H4 hy ⟨⟨o',rfl⟩,hs4,hl24⟩
    obtain ⟨b,hbj,rfl⟩:=getR hy
    obtain ⟨d,hd,hbd⟩:=hB.at hbj
    have hj:j < 4:=(List.getElem?_eq_some_iff.mp hd).1
    show tBodyC _ _ _ [some (.ref b),some (.ref lr)] H4
    refine ⟨_,rfl,_,rfl,lr,_,_,rfl,.inr (hs4 _ _ (s3 _ _ (hs _ _ hlr2))),e3Pl (hs4 _ _ hbd) (((hR2.same hs).same s3).same hs4),?_⟩
    rw [any_eqP]
    refine ⟨_,hl24,small1000 (by rw [List.length_map,List.length_take]; omega),⟨_,rfl⟩,fun b' u e' => ?_,?_⟩
    ·rw [upd_ne (ne_of_none e' hl2)]; exact hs4 _ _ e'
    ·rw [upd_same,List.take_succ,hd,List.map_append]; rfl
   ·rintro σ H4 ⟨_,hs4,hl24⟩
    rw [List.length_map,hb4,List.take_of_length_le (Nat.le_refl _)] at hl24
    refine ⟨l2,(beside c).map fun d => decide (d ∈ gridF road g),rfl,SqL.of (by rw [hl24,List.map_map]; rfl),_,rfl,?_⟩
    have e:((beside c).map fun d => decide (d ∈ gridF road g)).any id = nearRoad g c:=by unfold nearRoad; rw [List.any_map]; rfl
    rw [e]
    have s34:=s3.trans hs4
    refine iteB (fun z => ?_) fun z => ?_
    ·rw [if_pos z]
     have hn4:=s34 _ _ hn
     refine ⟨_,rfl,_,hn4,small1000 (by rw [List.length_map]; omega),⟨_,rfl⟩,fun b' u e' => ?_,ns ++ [p],?_,?_⟩
     ·rw [upd_ne (ne_of_none e' hl)]; exact s34 _ _ (hs _ _ e')
     ·rw [upd_same,List.map_append]; rfl
     ·exact PlAt.snoc (Paired.mapP (hN.same s34) fun _ _ z => PlA.put hn4 z) (PlA.put hn4 (s34 _ _ (hs _ _ he)))
    ·rw [if_neg (by rw [z]; decide),List.append_nil]
     exact ⟨⟨_,rfl⟩,hs.trans s34,ns,s34 _ _ hn,hN.same s34⟩
  ·rintro σ H' ⟨_,hs,ns,hn,hN⟩
   rw [List.length_map,hcl,List.take_of_length_le (Nat.le_refl _)] at hN
   exact q H' l ns (s1.free (s2.free hl)) ((s1.trans s2).trans hs) hn hN
theorem scAtRoad:FnScope ["mead","land"] ["mead","land"] (defScope sAtRoad):=⟨rfl,rfl,rfl,by decide +kernel,rfl,by decide +kernel,by decide +kernel⟩
theorem ok_atRoad {f g1 g2 g3 C:Addr} {fd d1 d2 d3:FuncData} (F:Fun K "at_road" "at_road" sAtRoad f fd) (a1:At P w K mg base (CX1 P w) 7 "check_land" g1 d1 ["mead","land"] (spChkLand C)) (a2:At P w K mg base CX0 7 "cells_at_road" g2 d2 ["mead"] spCRoad) (a3:At P w K mg base CX0 1 "has_some_of" g3 d3 ["land","cells"] spSome):FnOk P w K mg base (CX1 P w) 8 f fd ["mead","land"] (spLand C tlRoad):=by
 refine F.okX scAtRoad (fun vs H Q E h => ?_) (fun cdv A outer s H vs Q E hr h => ?_)
 ·obtain ⟨a,g,w',v,rfl,_⟩:=h; rfl
 ·obtain ⟨a,g,w',v,rfl,hA,G,kn,qq,qe⟩:=h
  refine ⟨_,pss_cons (ps_expr (pe_call a1.ok hr rfl a1.nm a1.kp a1.bd .nil pass1 (pa_v (pv 0) (pa_v (pv 1) pa_nil)))) <|
   pss_one (ps_ret (pe_call a3.ok (hr.mono (by decide)) rfl a3.nm a3.kp a3.bd .nil pass0 (pa_v (pv 1) (pa_k (pe_call a2.ok hr rfl a2.nm a2.kp a2.bd .nil pass0 (pa_v (pv 0) pa_nil)) pa_nil)))),?_⟩
  refine ⟨_,rfl,_,rfl,a,g,w',v,rfl,hA,G,kn,fun hV H1 s1 => ?_,qe⟩
  obtain ⟨t,cs,rfl,hT,hL⟩:=land_of hV
  refine ⟨_,rfl,_,rfl,a,g,w',rfl,hA.same s1,G,fun H2 l ps hl s2 hl2 hP => ?_⟩
  have h10:=LandOf.len G hL
  refine ⟨t,l,cs,ps,_,rfl,hT.same (s1.trans s2),by omega,hl2,hP,fun H3 s3 => ?_⟩
  have e:(cs.any fun c => decide (c ∈ (gridF pos g).filter (nearRoad g))) = atRoad g cs:=by
   rw [Bool.eq_iff_iff,List.any_eq_true]
   unfold atRoad
   rw [List.any_eq_true]
   constructor
   ·rintro ⟨c,hc,z⟩
    exact ⟨c,hc,(List.mem_filter.mp (of_decide_eq_true z)).2⟩
   ·rintro ⟨c,hc,z⟩
    exact ⟨c,hc,decide_eq_true (List.mem_filter.mpr ⟨hL.subset hc,z⟩)⟩
  rw [e]
  exact qq t cs rfl hT hL H3 ((s1.trans s2).trans s3)
theorem worth_loop {K:PySem.W.Frag} {a t l:Addr} {g:Grid} {w':Nat} {cs:List Pl} {ps:List Addr} {H:Hp} {Q:VK} (hA:GridAt H a g) (G:Good g w') (ht:H t = some (.tup (ps.map V.ref))) (hP:PlAt H ps cs) (hL:LandOf g cs) (hl:H l = none) (q:∀ H',Same H H'→Q (.int (worthP g cs)) H') :
  tForJ (Itt K t) (gTup K 2 (gCons (gName 0) (gCons (gName 1) gNil))) (tBodyC tAll (tEmit l (tOp (rIxT K) (tOp (rIxT K) (tVar 2) (tVar 0)) (tVar 1)))) (eC fun _ H' => ∃ (p:Addr) (ns:List Int),[V.ref l] = [.ref p]∧SqL K H' p (ns.map V.int)∧ns.length ≤ 1000∧(∀ n ∈ ns, -1000 ≤ n∧n ≤ 1000)∧Q (.int ns.sum) H') [none,none,some (.ref a)] (upd H l (.lst [])):=by
 have hpl:ps.length = cs.length:=Paired.length hP
 have h10:=LandOf.len G hL
 refine for_tup (K:=K) (a:=t) (xs:=ps.map V.ref) (fun i σ H' => (∃ o1 o2,σ = [o1,o2,some (.ref a)])∧Same H H'∧H' l = some (.lst (((cs.take i).map (atG g)).map V.int))) ⟨⟨_,_,rfl⟩,same_upd hl,by rw [upd_same]; rfl⟩ (fun i σ H' _ h => SqT.of (h.2.1 _ _ ht)) ?_ ?_
 ·rintro i x σ H' hi ⟨⟨o1,o2,rfl⟩,hs,hl'⟩
  obtain ⟨p,hpi,rfl⟩:=getR hi
  obtain ⟨cc,hci,hpc⟩:=hP.at hpi
  have hil:i < cs.length:=(List.getElem?_eq_some_iff.mp hci).1
  obtain ⟨i',j',xs,n,rfl,hg,hx,hf⟩:=mem_gridF.mp (hL.subset (List.mem_of_getElem? hci))
  obtain ⟨bs,b,h1,h2,h3,h4⟩:=(hA.same hs).ix hg hx
  refine ⟨p,_,rfl,SqT.of (hs _ _ hpc),rfl,_,_,rfl,_,_,rfl,rfl,?_⟩
  refine body_all ?_
  refine ⟨_,rfl,_,rfl,a,_,_,_,rfl,rfl,SqT.of h1,h2,_,rfl,b,_,_,_,rfl,rfl,SqT.of h3,h4,?_⟩
  refine ⟨_,hl',small1000 (by rw [List.length_map,List.length_map,List.length_take]; omega),⟨_,_,rfl⟩,fun b' u e' => ?_,?_⟩
  ·rw [upd_ne (ne_of_none e' hl)]; exact hs _ _ e'
  ·rw [upd_same,List.take_succ,hci,List.map_append,List.map_append]
   show some (HO.lst (_ ++ [V.int n])) = some (HO.lst (_ ++ [V.int (atG g ((i':Int),(j':Int)))]))
   rw [atG_of hg hx]
 ·rintro σ H' ⟨_,hs,hl'⟩
  rw [List.length_map,hpl,List.take_of_length_le (Nat.le_refl _)] at hl'
  refine ⟨l,_,rfl,SqL.of hl',by rw [List.length_map]; omega,fun n hn => ?_,q H' hs⟩
  obtain ⟨c,hc,rfl⟩:=List.mem_map.mp hn
  obtain ⟨i',j',xs,n,rfl,hg,hx,hf⟩:=mem_gridF.mp (hL.subset hc)
  rw [atG_of hg hx]
  have:=G.num xs (List.mem_of_getElem? hg) n (List.mem_of_getElem? hx)
  omega
theorem ok_wtogT {f:Addr} {fd:FuncData} (F:Fun K "worth_together" "worth_together" sWTog f fd) (T2:Txt2 mg):FnOk P w K mg base CX0 1 f fd ["mead","places"] spWTogT:=by
 refine F.ok scWTog (fun vs H Q E h => ?_) (fun cdv A outer s H vs Q E hr h => ?_)
 ·obtain ⟨a,t,g,w',cs,rfl,_⟩:=h; rfl
 ·obtain ⟨a,t,g,w',cs,rfl,hA,G,⟨ps,ht,hP⟩,hL,q⟩:=h
  refine ⟨_,pss_one (ps_ret (pe_callB (call_sumI rfl) rfl T2.sum boot_sum (pa_lc (pe_comp1 (defScope sWTog).names ["mead","places"] ["row","column"] [("mead",0)] rfl (pi_tup (pv 1)) rfl rfl rfl (by decide +kernel)
    (fun Z => pg_tup rfl (pgs_cons (pg_name (i:=0) ndRC rfl (Or.inl rfl)) (pgs_cons (pg_name (i:=1) ndRC rfl (Or.inl rfl)) pgs_nil))) (fun Z => pts_nil) (fun Z => pe_ix ix_tup (pe_ix ix_tup (pv 2) (pv 0) (fun _ _ => rfl)) (pv 1) (fun _ _ => rfl))) pa_nil))),?_⟩
  refine ⟨_,rfl,t,rfl,⟨_,SqT.of ht⟩,fun Z l hl => ?_⟩
  exact worth_loop hA G ht hP hL hl q
theorem scLWorth:FnScope ["_law_mead_here","_law_land_here"] ["_law_mead_here","_law_land_here"] (defScope sLWorth):=⟨rfl,rfl,rfl,by decide +kernel,rfl,by decide +kernel,by decide +kernel⟩
theorem ndLW:(["_law_row","_law_column","_law_mead_here"]:List Str).Nodup:=by decide +kernel
theorem ok_lworth {f:Addr} {fd:FuncData} (F:Fun K "_law_worth" "_law_worth" sLWorth f fd) (T2:Txt2 mg):FnOk P w K mg base CX0 1 f fd ["_law_mead_here","_law_land_here"] spWTogT:=by
 refine F.ok scLWorth (fun vs H Q E h => ?_) (fun cdv A outer s H vs Q E hr h => ?_)
 ·obtain ⟨a,t,g,w',cs,rfl,_⟩:=h; rfl
 ·obtain ⟨a,t,g,w',cs,rfl,hA,G,⟨ps,ht,hP⟩,hL,q⟩:=h
  refine ⟨_,pss_one (ps_ret (pe_callB (call_sumI rfl) rfl T2.sum boot_sum (pa_lc (pe_comp1 (defScope sLWorth).names ["_law_mead_here","_law_land_here"] ["_law_row","_law_column"] [("_law_mead_here",0)] rfl (pi_tup (pv 1)) rfl rfl rfl (by decide +kernel)
    (fun Z => pg_tup rfl (pgs_cons (pg_name (i:=0) ndLW rfl (Or.inl rfl)) (pgs_cons (pg_name (i:=1) ndLW rfl (Or.inl rfl)) pgs_nil))) (fun Z => pts_nil) (fun Z => pe_ix ix_tup (pe_ix ix_tup (pv 2) (pv 0) (fun _ _ => rfl)) (pv 1) (fun _ _ => rfl))) pa_nil))),?_⟩
  refine ⟨_,rfl,t,rfl,⟨_,SqT.of ht⟩,fun Z l hl => ?_⟩
  exact worth_loop hA G ht hP hL hl q
theorem scWorthOf:FnScope ["mead","land"] ["mead","land"] (defScope sWorthOf):=⟨rfl,rfl,rfl,by decide +kernel,rfl,by decide +kernel,by decide +kernel⟩
theorem ok_worthOf {f g1 g2 C:Addr} {fd d1 d2:FuncData} (F:Fun K "worth_of" "worth_of" sWorthOf f fd) (a1:At P w K mg base (CX1 P w) 7 "check_land" g1 d1 ["mead","land"] (spChkLand C)) (a2:At P w K mg base CX0 1 "worth_together" g2 d2 ["mead","places"] spWTogT):FnOk P w K mg base (CX1 P w) 8 f fd ["mead","land"] (spLand C tlWorth):=by
 refine F.okX scWorthOf (fun vs H Q E h => ?_) (fun cdv A outer s H vs Q E hr h => ?_)
 ·obtain ⟨a,g,w',v,rfl,_⟩:=h; rfl
 ·obtain ⟨a,g,w',v,rfl,hA,G,kn,qq,qe⟩:=h
  refine ⟨_,pss_cons (ps_expr (pe_call a1.ok hr rfl a1.nm a1.kp a1.bd .nil pass1 (pa_v (pv 0) (pa_v (pv 1) pa_nil)))) <|
   pss_one (ps_ret (pe_call a2.ok (hr.mono (by decide)) rfl a2.nm a2.kp a2.bd .nil pass0 (pa_v (pv 0) (pa_v (pv 1) pa_nil)))),?_⟩
  refine ⟨_,rfl,_,rfl,a,g,w',v,rfl,hA,G,kn,fun hV H1 s1 => ?_,qe⟩
  obtain ⟨t,cs,rfl,hT,hL⟩:=land_of hV
  exact ⟨_,rfl,_,rfl,a,t,g,w',cs,rfl,hA.same s1,G,hT.same s1,hL,fun H2 s2 => qq t cs rfl hT hL H2 (s1.trans s2)⟩
end
end M43
namespace Wlk
open PySem PyProof.Rows Srt Cyc Grd L2
theorem Rch.stepN {land R N:List Pl} {s x:Pl} {k:Nat} (h:Rch land s R k) (hx:R[k]? = some x) (hn:N.Nodup) (hm:∀ y,y ∈ N ↔ y ∈ beside x∧y ∈ land∧y ∉ R):Rch land s (R ++ N) (k + 1):=by
 have hk:k < R.length:=(List.getElem?_eq_some_iff.mp hx).1
 refine ⟨fun y hy => ?_,?_,List.mem_append_left _ h.st,fun i y hi hy z hz hzl => ?_,fun C hC y hy hyC => ?_,by rw [List.length_append]; omega⟩
 ·rcases List.mem_append.mp hy with e | e
  ·exact h.sub y e
  ·exact ((hm y).mp e).2.1
 ·rw [List.nodup_append]
  refine ⟨h.nd,hn,fun a ha b hb e => ?_⟩
  subst e
  exact ((hm a).mp hb).2.2 ha
 ·rw [List.getElem?_append_left (by omega)] at hy
  by_cases e:z ∈ R
  ·exact List.mem_append_left _ e
  ·rcases Nat.lt_or_ge i k with u | u
   ·exact absurd (h.done i y u hy z hz hzl) e
   ·have:i = k:=by omega
    rw [this,hx] at hy
    cases hy
    exact List.mem_append_right _ ((hm z).mpr ⟨hz,hzl,e⟩)
 ·rcases List.mem_append.mp hy with e | e
  ·exact h.min C hC y e hyC
  ·have hxR:=List.mem_of_getElem? hx
   exact h.min C hC x hxR (hC y hyC x (beside_sym ((hm y).mp e).1) (h.sub x hxR))
end Wlk
namespace M43
open PySem L2 PyProof.Rows Grd Wlk Cyc Srt
noncomputable abbrev sLand:Stmt:=top 50
noncomputable abbrev sNext:Stmt:=top 46
noncomputable abbrev sLPiece:Stmt:=top 47
noncomputable def spLandL:Sp:=fun vs H Q _ => ∃ p a g w,vs = [.ref p,.ref a]∧PenAt H p∧GridAt H a g∧Good g w∧∀ t cs H',Stp p H H'→SqA H' t cs→LandOf g cs→Q (.ref t) H'
noncomputable def spNext:Sp:=fun vs H Q _ => ∃ p q c d,vs = [.ref p,.ref q]∧PlA H p c∧PlA H q d∧Q (.bl (nextP c d)) H
noncomputable def spLPiece:Sp:=fun vs H Q _ => ∃ t p cs c,vs = [.ref t,.ref p]∧SqA H t cs∧cs.length ≤ 10∧cs.Nodup∧PlA H p c∧c ∈ cs∧∀ t' P H',Same H H'→SqA H' t' P→Piece cs c P→Q (.ref t') H'
theorem SqA.ext {H H':Hp} {a:Addr} {cs:List Pl} (h:SqA H a cs) (e:Ext H H'):SqA H' a cs:=let ⟨ps,h1,h2⟩:=h; ⟨ps,e.tup _ _ h1,Paired.mapP h2 fun _ _ z => e.tup _ _ z⟩
theorem pen_ne {H:Hp} {p l:Addr} (h:PenAt H p) (hl:H l = none):l ≠ p:=fun z => by
 obtain ⟨x,y,e⟩:=h
 rw [z,e] at hl; cases hl
section
variable {P:Program} {w:World} {K:PySem.W.Frag} {mg:Str→Option Value} {base:Heap}
noncomputable abbrev nLd:List Str:=["_law_pen_here","_law_mead_here","_law_odd"]
theorem scLand:FnScope nLd ["_law_pen_here","_law_mead_here"] (defScope sLand):=⟨rfl,rfl,rfl,by decide +kernel,rfl,by decide +kernel,by decide +kernel⟩
theorem ndLd:(["_law_place","_law_odd","_law_pen_here"]:List Str).Nodup:=by decide +kernel
theorem ok_land {f g1 g2:Addr} {fd d1 d2:FuncData} (F:Fun K "_law_land" "_law_land" sLand f fd) (T:Txt mg) (aD:At P w K mg base CX0 1 "_law_draw" g1 d1 ["_law_pen_here","_law_many"] spDraw) (aC:At P w K mg base CX0 1 "_law_cells" g2 d2 ["_law_mead_here"] (spGrid pos)):FnOk P w K mg base CX0 2 f fd ["_law_pen_here","_law_mead_here"] spLandL:=by
 refine F.ok scLand (fun vs H Q E h => ?_) (fun cdv A outer s H vs Q E hr h => ?_)
 ·obtain ⟨p,a,g,w',rfl,_⟩:=h; rfl
 ·obtain ⟨p,a,g,w',rfl,hp,hA,G,q⟩:=h
  have nd:=scLand.nd
  refine ⟨_,pss_cons (ps_set (i:=2) nd rfl (Or.inr rfl) (pe_op op_add pe_int (pe_call aD.ok hr rfl aD.nm aD.kp aD.bd .nil pass0 (pa_v (pv 0) (pa_c pe_int pa_nil))))) <|
   pss_one (ps_ret (pe_callTy call_tuple_of rfl T.tuple boot_tuple (pa_lc (pe_comp1 (defScope sLand).names nLd ["_law_place"] [("_law_odd",2),("_law_pen_here",0)] rfl (pi_list (pe_call aC.ok hr rfl aC.nm aC.kp aC.bd .nil pass0 (pa_v (pv 1) pa_nil))) rfl rfl rfl (by decide +kernel)
    (fun Z => pg_name (i:=0) ndLd rfl (Or.inl rfl)) (fun Z => pts_one (pt_cmpR op_lt (pe_call aD.ok hr rfl aD.nm aD.kp aD.bd .nil pass0 (pa_v (pv 2) (pa_c pe_int pa_nil))) (pv 1) (nomark _))) (fun Z => pv 0)) pa_nil))),?_⟩
  refine ⟨_,rfl,p,4,rfl,hp,by decide,by decide,fun d H1 d0 d1 st1 => ?_⟩
  refine ⟨_,_,rfl,rfl,?_⟩
  refine ⟨_,rfl,a,g,w',rfl,hA.ext (st1.ext hp),G,fun H2 l0 ps hl0 s2 hl0' hP => ?_⟩
  have pen2:PenAt H2 p:=let ⟨x,y,e⟩:=st1.pen; ⟨x,y,s2 _ _ e⟩
  have np0:l0 ≠ p:=pen_ne st1.pen hl0
  have hlen:ps.length = (gridF pos g).length:=Paired.length hP
  have h10:ps.length ≤ 10:=by rw [hlen,len_cells]; exact G.c10
  refine ⟨l0,rfl,⟨_,SqL.of hl0'⟩,fun Z l hl => ?_⟩
  have npl:l ≠ p:=pen_ne pen2 hl
  have hll:l0 ≠ l:=ne_of_none hl0' hl
  refine for_list (K:=K) (a:=l0) (xs:=ps.map V.ref) (fun i σ H' => (∃ o,σ = [o,some (.int (1 + d)),some (.ref p)])∧Stp p H2 H'∧∃ ps' cs',H' l = some (.lst ((ps':List Addr).map V.ref))∧PlAt H' ps' cs'∧cs'.Sublist ((gridF pos g).take i))
   ⟨⟨_,rfl⟩,(Stp.refl pen2).updL hl pen2,[],[],by rw [upd_same]; rfl,.nil,List.nil_sublist _⟩ (fun i σ H' _ h => SqL.of (h.2.1.keep _ _ np0 hl0')) ?_ ?_
  ·rintro i x σ H' hx ⟨⟨o,rfl⟩,hst,ps',cs',hl',hP',hsub⟩
   obtain ⟨pi,hpi,rfl⟩:=getR hx
   obtain ⟨c,hc,he⟩:=hP.at hpi
   have hi:i < ps.length:=(List.getElem?_eq_some_iff.mp hpi).1
   have hpl:ps'.length ≤ i:=by
    have h1:ps'.length = _:=Paired.length hP'
    have h2:=hsub.length_le
    rw [List.length_take] at h2; omega
   show tBodyC _ _ _ [some (.ref pi),some (.int (1 + d)),some (.ref p)] H'
   refine ⟨_,rfl,p,5,rfl,hst.pen,by decide,by decide,fun e H3 e0 e1 st3 => ?_⟩
   have hl3:=st3.keep _ _ npl hl'
   have ex3:=st3.ext hst.pen
   have hst3:=hst.trans st3
   have et:(gridF pos g).take (i + 1) = (gridF pos g).take i ++ [c]:=by rw [List.take_succ,hc]; rfl
   rw [et]
   refine ⟨_,rfl,_,_,rfl,rfl,_,rfl,ite2d (fun _ => ?_) fun _ => ?_⟩
   ·refine ⟨_,rfl,_,hl3,small1000 (by rw [List.length_map]; omega),⟨_,rfl⟩,hst3.updL hl pen2,ps' ++ [pi],cs' ++ [c],?_,?_,List.Sublist.append hsub (List.Sublist.refl _)⟩
    ·rw [upd_same,List.map_append]; rfl
    ·exact PlAt.snoc (Paired.mapP hP' fun _ _ z => PlA.put hl3 (ex3.tup _ _ z)) (PlA.put hl3 ((hst3.ext pen2).tup _ _ he))
   ·exact ⟨⟨_,rfl⟩,hst3,ps',cs',hl3,Paired.mapP hP' fun _ _ z => ex3.tup _ _ z,hsub.trans (List.sublist_append_left _ _)⟩
  ·rintro σ H' ⟨_,hst,ps',cs',hl',hP',hsub⟩
   refine ⟨l,_,rfl,.inl ⟨SqL.of hl',fun t ht => ?_⟩⟩
   have s5:=same_upd (o:=.tup (ps'.map V.ref)) ht
   exact q t cs' _ (((st1.same s2).trans hst).same s5) ⟨ps',upd_same,hP'.same s5⟩ (hsub.trans (List.take_sublist _ _))
theorem boot_abs:bootBuiltins "abs" = some (.builtin "abs"):=by decide +kernel
theorem scNext:FnScope ["_law_one","_law_other"] ["_law_one","_law_other"] (defScope sNext):=⟨rfl,rfl,rfl,by decide +kernel,rfl,by decide +kernel,by decide +kernel⟩
theorem ok_next {f:Addr} {fd:FuncData} (F:Fun K "_law_next" "_law_next" sNext f fd) (T2:Txt2 mg):FnOk P w K mg base CX0 1 f fd ["_law_one","_law_other"] spNext:=by
 refine F.ok scNext (fun vs H Q E h => ?_) (fun cdv A outer s H vs Q E hr h => ?_)
 ·obtain ⟨p,q,c,d,rfl,_⟩:=h; rfl
 ·obtain ⟨p,q,c,d,rfl,hp,hq,k⟩:=h
  refine ⟨_,pss_one (ps_ret (pe_cmpR op_eq (pe_op op_add (pe_callB call_abs rfl T2.abs boot_abs (pa_b (pe_op op_sub (pe_ix ix_tup (pv 0) pe_int (fun _ _ => rfl)) (pe_ix ix_tup (pv 1) pe_int (fun _ _ => rfl))) pa_nil)) (pe_callB call_abs rfl T2.abs boot_abs (pa_b (pe_op op_sub (pe_ix ix_tup (pv 0) pe_int (fun _ _ => rfl)) (pe_ix ix_tup (pv 1) pe_int (fun _ _ => rfl))) pa_nil))) pe_int (nomark _))),?_⟩
  refine ⟨_,rfl,p,_,0,_,rfl,rfl,SqT.of hp,atI_nat (j:=0) rfl,_,rfl,q,_,0,_,rfl,rfl,SqT.of hq,atI_nat (j:=0) rfl,_,_,rfl,rfl,_,rfl,?_⟩
  refine ⟨_,rfl,p,_,1,_,rfl,rfl,SqT.of hp,atI_nat (j:=1) rfl,_,rfl,q,_,1,_,rfl,rfl,SqT.of hq,atI_nat (j:=1) rfl,_,_,rfl,rfl,_,rfl,_,_,rfl,rfl,rfl,?_⟩
  have e:decide (V.int ((if c.1 - d.1 < 0 then -(c.1 - d.1) else c.1 - d.1) + (if c.2 - d.2 < 0 then -(c.2 - d.2) else c.2 - d.2)) = V.int 1) = nextP c d:=by
   unfold nextP
   rw [decide_eq_decide]
   constructor
   ·intro z; have:=V.int.inj z; split at this <;> split at this <;> omega
   ·intro z; congr 1; split <;> split <;> omega
  rw [e]
  exact k
noncomputable abbrev nLP:List Str:=["_law_land_here","_law_place","_law_line","_law_at"]
theorem scLPiece:FnScope nLP ["_law_land_here","_law_place"] (defScope sLPiece):=⟨rfl,rfl,rfl,by decide +kernel,rfl,by decide +kernel,by decide +kernel⟩
theorem ndLP:(["_law_one","_law_line","_law_at"]:List Str).Nodup:=by decide +kernel
theorem ok_lpiece {f g1:Addr} {fd d1:FuncData} (F:Fun K "_law_piece" "_law_piece" sLPiece f fd) (T:Txt mg) (T2:Txt2 mg) (a1:At P w K mg base CX0 1 "_law_next" g1 d1 ["_law_one","_law_other"] spNext):FnOk P w K mg base CX0 2 f fd ["_law_land_here","_law_place"] spLPiece:=by
  refine F.ok scLPiece (fun vs H Q E h => ?_) (fun cdv A outer s H vs Q E hr h => ?_)
  · obtain ⟨t,p,cs,c,rfl,_⟩:=h; rfl
  · obtain ⟨t,pa,cs,c,rfl,hT,h10,hnd,hp,hc,q⟩:=h
    have nd:=scLPiece.nd
    refine ⟨_,pss_cons (ps_asg (pe_tup (pa_l (pe_lst (pa_v (pv 1) pa_nil)) (pa_c pe_int pa_nil))) (pg_tup rfl (pgs_cons (pg_name (i:=2) nd rfl (Or.inr rfl)) (pgs_cons (pg_name (i:=3) nd rfl (Or.inr rfl)) pgs_nil)))) <|
      pss_cons (ps_while PassesOwn.never (pt_cmpR op_lt (pv 3) (pe_callB call_len_seq rfl T.len PySem.boot_len (pa_v (pv 2) pa_nil)) (nomark _))
        (pss_cons (ps_expr (pe_bm PySem.F.plainAttrs_list PySem.F.slot_list_extend PySem.F.type_list_extend mt_extend (pv 2) (pa_lc (pe_comp1 (defScope sLPiece).names nLP ["_law_one"] [("_law_line",2),("_law_at",3)] rfl (pi_tup (pv 0)) rfl rfl rfl (by decide +kernel)
            (fun Z => pg_name (i:=0) ndLP rfl (Or.inl rfl)) (fun Z => pts_one (PW.pt (pw_and (pt_cmpR (op_notInD 1 (hu1_of hr)) (pv 0) (pv 1) rfl) (pw_and1 (pt_val (pe_call a1.ok hr rfl a1.nm a1.kp a1.bd .nil pass0 (pa_v (pv 0) (pa_s (pe_ix ix_list (pv 1) (pv 2) (fun _ _ => rfl)) pa_nil)))))))) (fun Z => pv 0)) pa_nil))) <|
         pss_one (ps_set (i:=3) nd rfl (Or.inr rfl) (pe_op op_add (pv 3) pe_int)))) <|
      pss_one (ps_ret (pe_callTy call_tuple_of rfl T.tuple boot_tuple (pa_k (pe_callB call_sortedT rfl T2.sorted boot_sorted (pa_v (pv 2) pa_nil)) pa_nil))),?_⟩
    obtain ⟨ts,ht,hP⟩:=hT
    have hts:ts.length = cs.length:=Paired.length hP
    refine ⟨_,rfl,by show 1 ≤ sizeLine; decide,fun lr hlr => ?_⟩
    have s0:=same_upd (o:=.lst [.ref pa]) hlr
    refine ⟨by show 2 ≤ sizeLine; decide,fun tp htp => ?_⟩
    have s00:=same_upd (o:=.tup [.ref lr,.int 0]) htp
    refine ⟨tp,_,rfl,SqT.of upd_same,rfl,_,_,rfl,_,_,rfl,rfl,?_⟩
    have sA:=s0.trans s00
    refine ⟨fun m σ H' => ∃ k qs R,m + k = 10∧σ = [some (.ref t),some (.ref pa),some (.ref lr),some (.int (k:Nat))]∧Same H H'∧H' lr = some (.lst ((qs:List Addr).map V.ref))∧PlAt H' qs R∧Rch cs c R k,
      ⟨10,0,[pa],[c],rfl,rfl,sA,s00 _ _ upd_same,.cons (sA _ _ hp) .nil,Rch.start hc⟩,?_⟩
    rintro m σ H' ⟨k,qs,R,hm,rfl,hs,hlr',hR,rc⟩
    have hqR:qs.length = R.length:=Paired.length hR
    have hRl:=rc.len
    refine ⟨_,rfl,_,rfl,lr,_,rfl,.inl (SqL.of hlr'),_,_,rfl,rfl,_,rfl,ite2d (fun z => ?_) fun z => ?_⟩
    · rw [List.length_map,hqR] at z
      have hk:k < R.length:=by omega
      have hkq:k < qs.length:=by omega
      have hqk:qs[k]? = some (qs[k]):=List.getElem?_eq_getElem hkq
      obtain ⟨x,hx,he⟩:=hR.at hqk
      have hnn:(nb2 cs R x).Nodup:=hnd.sublist List.filter_sublist
      refine ⟨fun σ' H2 => ∃ qs',σ' = [some (.ref t),some (.ref pa),some (.ref lr),some (.int ((k + 1:Nat):Int))]∧Same H H2∧H2 lr = some (.lst ((qs':List Addr).map V.ref))∧PlAt H2 qs' (R ++ nb2 cs R x),
        fun σ' H2 ⟨qs',h1,h2,h3,h4⟩ => ⟨m - 1,by omega,k + 1,qs',_,by omega,h1,h2,h3,h4,rc.stepN hx hnn fun y => mem_nb2⟩,?_⟩
      refine ⟨_,rfl,.inl ⟨rfl,_,SqL.of hlr'⟩,?_⟩
      have ht':=hs _ _ ht
      have hP':=hP.same hs
      refine ⟨_,rfl,t,rfl,⟨_,SqT.of ht'⟩,fun Z ln hln => ?_⟩
      refine for_tup (K:=K) (a:=t) (xs:=ts.map V.ref) (fun j σ H3 => (∃ o,σ = [o,some (.ref lr),some (.int (k:Nat))])∧Same H' H3∧∃ ns,H3 ln = some (.lst ((ns:List Addr).map V.ref))∧PlAt H3 ns (nb2 (cs.take j) R x))
        ⟨⟨_,rfl⟩,same_upd hln,[],by rw [upd_same]; rfl,.nil⟩ (fun j σ H3 _ h => SqT.of (h.2.1 _ _ ht')) ?_ ?_
      · rintro j y σ H3 hy ⟨⟨o',rfl⟩,hs3,ns,hn,hN⟩
        obtain ⟨b,hbj,rfl⟩:=getR hy
        obtain ⟨d,hd,hbd⟩:=hP'.at hbj
        have hj:j < cs.length:=(List.getElem?_eq_some_iff.mp hd).1
        have hbd3:=hs3 _ _ hbd
        have hnl:ns.length ≤ 10:=by
          have h1:ns.length = (nb2 (cs.take j) R x).length:=Paired.length hN
          have h2:(nb2 (cs.take j) R x).length ≤ (cs.take j).length:=List.length_filter_le _ _
          rw [List.length_take] at h2; omega
        have et:nb2 (cs.take (j + 1)) R x = nb2 (cs.take j) R x ++ (if (!decide (d ∈ R) && nextP d x) = true then [d] else []):=by
          unfold nb2
          rw [List.take_succ,hd,List.filter_append]
          congr 1
          cases e:(!decide (d ∈ R) && nextP d x)
          · simp [e]
          · simp [e]
        rw [et]
        show tBodyC _ _ _ [some (.ref b),some (.ref lr),some (.int (k:Nat))] H3
        refine ⟨_,rfl,_,rfl,lr,_,_,rfl,.inr (hs3 _ _ hlr'),e3Pl hbd3 (hR.same hs3),_,rfl,?_⟩
        rw [any_eq]
        refine iteB (fun z1' => ?_) fun z1' => ?_
        · have z1:d ∉ R:=by simpa using z1'
          rw [decide_eq_false z1]
          refine ⟨_,rfl,_,rfl,_,rfl,lr,_,_,_,rfl,rfl,SqL.of (hs3 _ _ hlr'),atI_nat (v:=V.ref qs[k]) (by rw [List.getElem?_map,hqk]; rfl),?_⟩
          refine ⟨b,qs[k],d,x,rfl,hbd3,hs3 _ _ he,_,rfl,?_⟩
          refine iteB (fun z2 => ?_) fun z2 => ?_
          · rw [if_pos (by rw [z2]; rfl)]
            refine ⟨_,rfl,_,hn,small1000 (by rw [List.length_map]; omega),⟨_,rfl⟩,fun b' u e' => ?_,ns ++ [b],?_,?_⟩
            · rw [upd_ne (ne_of_none e' hln)]; exact hs3 _ _ e'
            · rw [upd_same,List.map_append]; rfl
            · exact PlAt.snoc (Paired.mapP hN fun _ _ z => PlA.put hn z) (PlA.put hn hbd3)
          · rw [if_neg (by rw [z2]; decide),List.append_nil]
            exact ⟨⟨_,rfl⟩,hs3,ns,hn,hN⟩
        · have z1:d ∈ R:=by simpa using z1'
          rw [if_neg (by rw [decide_eq_true z1]; simp),List.append_nil]
          exact ⟨⟨_,rfl⟩,hs3,ns,hn,hN⟩
      · rintro σ H3 ⟨⟨o',rfl⟩,hs3,ns,hn,hN⟩
        rw [List.length_map,hts,List.take_of_length_le (Nat.le_refl _)] at hN
        have hnl:ns.length ≤ 10:=by
          have h1:ns.length = (nb2 cs R x).length:=Paired.length hN
          have h2:(nb2 cs R x).length ≤ cs.length:=List.length_filter_le _ _
          omega
        have hlr3:=hs3 _ _ hlr'
        refine ⟨lr,ln,_,_,rfl,rfl,hlr3,hn,by rw [List.length_map,List.length_map,sizeLine_eq]; omega,?_⟩
        refine ⟨_,rfl,_,_,rfl,rfl,⟨qs ++ ns,rfl,fun b' u e' => ?_,by rw [upd_same,List.map_append],?_⟩⟩
        · rw [upd_ne (ne_of_none e' hlr)]; exact hs3 _ _ (hs _ _ e')
        · exact pl_app (Paired.mapP (hR.same hs3) fun _ _ z => PlA.put hlr3 z) (Paired.mapP hN fun _ _ z => PlA.put hlr3 z)
    · rw [List.length_map,hqR] at z
      refine ⟨_,rfl,?_⟩
      refine srt_pl (X:=(cxOf CX0 P w K mg base nLP (Str.ofString "_law_piece") (defScope sLPiece) f cdv A outer s H E).nox) (Q:=fun v H1 => ∃ p ys,[v] = [V.ref p]∧((SqL K H1 p ys∧∀ l,H1 l = none→Q (.ref l) (upd H1 l (.tup ys))) ∨ (SqT K H1 p ys∧Q (.ref p) H1))) hlr' hR (by omega) fun l9 qs' R' H9 h9 s9 hl9 hR9 pm up => ?_
      refine ⟨l9,_,rfl,.inl ⟨SqL.of hl9,fun t' ht' => ?_⟩⟩
      have s10:=same_upd (o:=.tup (qs'.map V.ref)) ht'
      exact q t' R' _ ((hs.trans s9).trans s10) ⟨qs',upd_same,hR9.same s10⟩ (rc.fin (by omega) pm up)
end
end M43
namespace M43
open PySem L2 PyProof.Rows Grd Wlk Cyc Srt
noncomputable abbrev sLRoad:Stmt:=top 48
noncomputable def spLRoad:Sp:=fun vs H Q _ => ∃ a t g w cs,vs = [.ref a,.ref t]∧GridAt H a g∧Good g w∧SqA H t cs∧LandOf g cs∧∀ H',Same H H'→Q (.bl (atRoad g cs)) H'
noncomputable def meets (g:Grid) (cs:List Pl) (i j:Nat):Prop:=∃ xs,g[i]? = some xs∧xs[j]? = some (-1)∧∃ c ∈ cs,nextP c ((i:Int),(j:Int)) = true
theorem road_iff {g:Grid} {cs:List Pl}:atRoad g cs = true ↔ ∃ i j,meets g cs i j:=by
 unfold atRoad meets
 rw [List.any_eq_true]
 constructor
 ·rintro ⟨c,hc,z⟩
  obtain ⟨d,hd,e⟩:=List.any_eq_true.mp z
  obtain ⟨i,j,xs,n,rfl,h1,h2,h3⟩:=mem_gridF.mp (of_decide_eq_true e)
  have h3':n = -1:=of_decide_eq_true h3
  subst h3'
  exact ⟨i,j,xs,h1,h2,c,hc,next_iff.mpr (beside_sym hd)⟩
 ·rintro ⟨i,j,xs,h1,h2,c,hc,z⟩
  exact ⟨c,hc,List.any_eq_true.mpr ⟨((i:Int),(j:Int)),beside_sym (next_iff.mp z),decide_eq_true (mem_gridF.mpr ⟨i,j,xs, -1,rfl,h1,h2,rfl⟩)⟩⟩
section
variable {P:Program} {w:World} {K:PySem.W.Frag} {mg:Str→Option Value} {base:Heap}
noncomputable abbrev nLR:List Str:=["_law_mead_here","_law_land_here","_law_row","_law_numbers","_law_column","_law_number","_law_near"]
theorem scLRoad:FnScope nLR ["_law_mead_here","_law_land_here"] (defScope sLRoad):=⟨rfl,rfl,rfl,by decide +kernel,rfl,by decide +kernel,by decide +kernel⟩
theorem ndLRc:(["_law_place","_law_row","_law_column"]:List Str).Nodup:=by decide +kernel
theorem ok_lroad {f g1:Addr} {fd d1:FuncData} (F:Fun K "_law_at_road" "_law_at_road" sLRoad f fd) (T:Txt mg) (a1:At P w K mg base CX0 1 "_law_next" g1 d1 ["_law_one","_law_other"] spNext):FnOk P w K mg base CX0 2 f fd ["_law_mead_here","_law_land_here"] spLRoad:=by
  refine F.ok scLRoad (fun vs H Q E h => ?_) (fun cdv A outer s H vs Q E hr h => ?_)
  · obtain ⟨a,t,g,w',cs,rfl,_⟩:=h; rfl
  · obtain ⟨a,t,g,w',cs,rfl,⟨bs,ha,hG⟩,G,⟨ts,ht,hP⟩,hL,q⟩:=h
    have nd:=scLRoad.nd
    have h10:=LandOf.len G hL
    have hts:ts.length = cs.length:=Paired.length hP
    refine ⟨_,pss_cons (ps_for PassesOwn.never rfl (pi_enumT rfl rfl T.enumerate (pa_v (pv 0) pa_nil)) (pg_tup rfl (pgs_cons (pg_name (i:=2) nd rfl (Or.inr rfl)) (pgs_cons (pg_name (i:=3) nd rfl (Or.inl rfl)) pgs_nil)))
        (pss_one (ps_for PassesOwn.never rfl (pi_enumT rfl rfl T.enumerate (pa_v (pv 3) pa_nil)) (pg_tup rfl (pgs_cons (pg_name (i:=4) nd rfl (Or.inr rfl)) (pgs_cons (pg_name (i:=5) nd rfl (Or.inl rfl)) pgs_nil)))
          (pss_cons (ps_setC1 (i:=6) (defScope sLRoad).names nLR ["_law_place"] [("_law_row",2),("_law_column",4)] rfl nd rfl rfl (pi_tup (pv 1)) rfl rfl rfl (by decide +kernel)
              (fun Z => pg_name (i:=0) ndLRc rfl (Or.inl rfl)) (fun Z => pts_one (pt_val (pe_call a1.ok hr rfl a1.nm a1.kp a1.bd .nil pass0 (pa_v (pv 0) (pa_t (pe_tup (pa_v (pv 1) (pa_v (pv 2) pa_nil))) pa_nil))))) (fun Z => pv 0)) <|
           pss_one (ps_if (PW.pt (pw_and (pt_cmpR op_eq (pv 5) (pe_un un_neg pe_int) (nomark _)) (pw_and1 (pt_cmpR (op_neNil (hu_of hr)) (pv 6) (pe_lst pa_nil) (nomark _))))) (pss_one (ps_ret pe_bl)) pss_nil))))) <|
      pss_one (ps_ret pe_bl),?_⟩
    have hbs:bs.length = g.length:=Paired.length hG
    refine ⟨_,rfl,a,_,rfl,SqT.of ha,?_⟩
    refine for_enum (xs:=bs.map V.ref) (fun i σ H' => (∃ o2 o3 o4 o5 o6,σ = [some (.ref a),some (.ref t),o2,o3,o4,o5,o6])∧Same H H'∧∀ i' j,i' < i→¬ meets g cs i' j) ⟨⟨_,_,_,_,_,rfl⟩,Same.refl _,fun i' j h => absurd h (Nat.not_lt_zero _)⟩ (fun i σ H' _ h => SqT.of (h.2.1 _ _ ha)) ?_ ?_
    · rintro i r p σ H' hx ⟨⟨o2,o3,o4,o5,o6,rfl⟩,hs,hno⟩ hp
      obtain ⟨b,hbi,rfl⟩:=getR hx
      obtain ⟨xs,hgi,hb⟩:=hG.row hbi
      have s1:Same H' (upd H' p (.tup [.int i,.ref b])):=same_upd hp
      refine ⟨p,_,rfl,SqT.of upd_same,rfl,_,_,rfl,_,_,rfl,rfl,?_⟩
      have sA:=hs.trans s1
      refine ⟨_,rfl,b,xs.map V.int,rfl,SqT.of (sA _ _ hb),?_⟩
      refine for_enum (xs:=xs.map V.int) (fun j σ H2 => (∃ o4 o5 o6,σ = [some (.ref a),some (.ref t),some (.int i),some (.ref b),o4,o5,o6])∧Same H H2∧∀ j',j' < j→¬ meets g cs i j') ⟨⟨_,_,_,rfl⟩,sA,fun j' h => absurd h (Nat.not_lt_zero _)⟩ (fun j σ H2 _ h => SqT.of (h.2.1 _ _ hb)) ?_ ?_
      · rintro j x p2 σ H2 hxj ⟨⟨o4',o5',o6',rfl⟩,hs2,hno2⟩ hp2
        obtain ⟨z,hzj,rfl⟩:∃ z,xs[j]? = some z∧V.int z = x:=by
          rw [List.getElem?_map] at hxj
          cases e:xs[j]? with
          | none => rw [e] at hxj; cases hxj
          | some z => rw [e] at hxj; exact ⟨z,rfl,Option.some.inj hxj⟩
        have s2:Same H2 (upd H2 p2 (.tup [.int j,.int z])):=same_upd hp2
        refine ⟨p2,_,rfl,SqT.of upd_same,rfl,_,_,rfl,_,_,rfl,rfl,?_⟩
        have sB:=hs2.trans s2
        have ht2:=sB _ _ ht
        have hP2:=hP.same sB
        refine ⟨_,rfl,t,rfl,⟨_,SqT.of ht2⟩,fun Z l hl => ?_⟩
        refine for_tup (K:=K) (a:=t) (xs:=ts.map V.ref) (fun k σ H3 => (∃ o,σ = [o,some (.int i),some (.int j)])∧Same (upd H2 p2 (.tup [.int j,.int z])) H3∧∃ ns,H3 l = some (.lst ((ns:List Addr).map V.ref))∧ns.length = ((cs.take k).filter fun c => nextP c ((i:Int),(j:Int))).length) ⟨⟨_,rfl⟩,same_upd hl,[],by rw [upd_same]; rfl,rfl⟩ (fun k σ H3 _ h => SqT.of (h.2.1 _ _ ht2)) ?_ ?_
        · rintro k y σ H3 hy ⟨⟨o',rfl⟩,hs3,ns,hn,hN⟩
          obtain ⟨c',hck,rfl⟩:=getR hy
          obtain ⟨d,hd,hbd⟩:=hP2.at hck
          have hk:k < cs.length:=(List.getElem?_eq_some_iff.mp hd).1
          have hnl:ns.length ≤ 10:=by
            have h2:=List.length_filter_le (fun c => nextP c ((i:Int),(j:Int))) (cs.take k)
            rw [List.length_take] at h2; omega
          have et:((cs.take (k + 1)).filter fun c => nextP c ((i:Int),(j:Int))) = ((cs.take k).filter fun c => nextP c ((i:Int),(j:Int))) ++ (if nextP d ((i:Int),(j:Int)) = true then [d] else []):=by
            rw [List.take_succ,hd,List.filter_append]
            congr 1
            cases e:nextP d ((i:Int),(j:Int))
            · simp [e]
            · simp [e]
          rw [et]
          show tBodyC _ _ _ [some (.ref c'),some (.int i),some (.int j)] H3
          refine ⟨_,rfl,_,rfl,_,rfl,by show 2 ≤ sizeLine; decide,fun q3 hq3 => ?_⟩
          have s3:=same_upd (o:=.tup [.int i,.int j]) hq3
          refine ⟨c',q3,d,((i:Int),(j:Int)),rfl,s3 _ _ (hs3 _ _ hbd),upd_same,_,rfl,?_⟩
          refine iteB (fun z2 => ?_) fun z2 => ?_
          · rw [if_pos z2]
            have hn3:=s3 _ _ hn
            refine ⟨_,rfl,_,hn3,small1000 (by rw [List.length_map]; omega),⟨_,rfl⟩,fun b' u e' => ?_,ns ++ [c'],?_,?_⟩
            · rw [upd_ne (ne_of_none e' hl)]; exact s3 _ _ (hs3 _ _ e')
            · rw [upd_same,List.map_append]; rfl
            · rw [List.length_append,List.length_append,hN]; rfl
          · rw [if_neg (by rw [z2]; decide),List.append_nil]
            exact ⟨⟨_,rfl⟩,hs3.trans s3,ns,s3 _ _ hn,hN⟩
        · rintro σ H3 ⟨_,hs3,ns,hn,hN⟩
          rw [List.length_map,hts,List.take_of_length_le (Nat.le_refl _)] at hN
          have sC:=sB.trans hs3
          refine ⟨_,rfl,_,rfl,rfl,_,rfl,?_⟩
          have notm:(z ≠ -1 ∨ ns = [])→¬ meets g cs i j:=fun h => by
            rintro ⟨xs',e1,e2,c,hc,hnx⟩
            rw [hgi] at e1; cases e1
            rw [hzj] at e2
            rcases h with h | h
            · exact h (Option.some.inj e2)
            · subst h
              have:c ∈ cs.filter fun c => nextP c ((i:Int),(j:Int)):=List.mem_filter.mpr ⟨hc,hnx⟩
              rw [List.eq_nil_of_length_eq_zero hN.symm] at this
              cases this
          have nxt:∀ H4,Same H3 H4→(z ≠ -1 ∨ ns = [])→((∃ o4 o5 o6,[some (V.ref a),some (V.ref t),some (V.int i),some (V.ref b),some (V.int j),some (V.int z),some (V.ref l)] = [some (V.ref a),some (V.ref t),some (V.int i),some (V.ref b),o4,o5,o6])∧Same H H4∧∀ j',j' < j + 1→¬ meets g cs i j'):=fun H4 s4 h =>
            ⟨⟨_,_,_,rfl⟩,sC.trans s4,fun j' hj' => by
              by_cases e:j' = j
              · rw [e]; exact notm h
              · exact hno2 j' (by omega)⟩
          refine ite2d (fun e1 => ?_) fun e1 => ?_
          · have e1':z = -1:=V.int.inj e1
            refine ⟨_,rfl,by show 0 ≤ sizeLine; decide,fun l4 hl4 => ?_⟩
            have s4:=same_upd (o:=.lst []) hl4
            refine ⟨l,l4,_,rfl,rfl,s4 _ _ hn,upd_same,_,rfl,?_⟩
            cases ns with
            | nil => exact nxt _ s4 (.inr rfl)
            | cons n0 ns =>
              have hm:meets g cs i j:=by
                have:∃ c,c ∈ cs.filter fun c => nextP c ((i:Int),(j:Int)):=by
                  cases e:cs.filter fun c => nextP c ((i:Int),(j:Int)) with
                  | nil => rw [e] at hN; cases hN
                  | cons c _ => exact ⟨c,List.mem_cons_self⟩
                obtain ⟨c,hc⟩:=this
                rw [List.mem_filter] at hc
                exact ⟨xs,hgi,by rw [hzj,e1'],c,hc.1,hc.2⟩
              have:=q _ (sC.trans s4)
              rw [road_iff.mpr ⟨i,j,hm⟩] at this
              exact this
          · exact nxt H3 (Same.refl _) (.inl fun z' => e1 (by rw [z']))
      · rintro σ H2 ⟨⟨o4',o5',o6',rfl⟩,hs2,hno2⟩
        refine ⟨⟨_,_,_,_,_,rfl⟩,hs2,fun i' j hi' => ?_⟩
        by_cases e:i' = i
        · rw [e]
          by_cases hj:j < (xs.map V.int).length
          · exact hno2 j hj
          · rintro ⟨xs',e1,e2,_⟩
            rw [hgi] at e1; cases e1
            have:=(List.getElem?_eq_some_iff.mp e2).1
            rw [List.length_map] at hj
            omega
        · exact hno i' j (by omega)
    · rintro σ H' ⟨⟨o2,o3,o4,o5,o6,rfl⟩,hs,hno⟩
      have e:atRoad g cs = false:=by
        rw [Bool.eq_false_iff]
        intro z
        obtain ⟨i,j,hm⟩:=road_iff.mp z
        refine hno i j ?_ hm
        obtain ⟨xs,e1,_⟩:=hm
        rw [List.length_map,hbs]
        exact (List.getElem?_eq_some_iff.mp e1).1
      have:=q H' hs
      rw [e] at this
      exact this
end
end M43
namespace Gs
open PySem PyProof.Rows Stb
structure Kk (prog:Program) (w:World) (κ:Type) [DecidableEq κ] where
 hs:κ→Int
 is:Heap→κ→Addr→Prop
 mono:∀ {h h':Heap} {k:κ} {a:Addr},is h k a→(∀ b o,h.get? b = some o→h'.get? b = some o)→is h' k a
 tup:∀ {h:Heap} {k:κ} {a:Addr},is h k a→∃ o,h.get? a = some o∧o.cls = .type "tuple"
 quiet:∀ {A:Around} {E:Value→Shared→Prop} {s:Shared} {k:κ} {a:Addr} {Q:Bool→Shared→Prop},is s.heap k a→Q true s→wpAny (model prog w) A (eqIsQuiet 8 (.ref a)) Q E s
 noClass:∀ {A:Around} {E:Value→Shared→Prop} {s:Shared} {k:κ} {a:Addr} {Q:Bool→Shared→Prop},is s.heap k a→Q false s→wpAny (model prog w) A (ofAClassStatement 8 (.ref a)) Q E s
 byValue:∀ {A:Around} {E:Value→Shared→Prop} {s:Shared} {k:κ} {a:Addr} {Q:Bool→Shared→Prop},is s.heap k a→Q true s→wpAny (model prog w) A (hashByValue 8 (.ref a)) Q E s
 eqb:∀ {A:Around} {E:Value→Shared→Prop} {s:Shared} {x y:κ} {a b:Addr} {Q:Bool→Shared→Prop},A.units + 1 < cLine→is s.heap x a→is s.heap y b→Q (decide (x = y)) s→wpAny (model prog w) A (eqBool (.ref a) (.ref b)) Q E s
 hash:∀ {A:Around} {E:Value→Shared→Prop} {s:Shared} {k:κ} {a:Addr} {Q:Int→Shared→Prop},A.units + 1 < cLine→is s.heap k a→(∀ n,Q (hs k) { s with toks:=s.toks + n })→wpAny (model prog w) A (pyHash (.ref a)) Q E s
section
variable {κ:Type} {hf:κ→Int}
noncomputable def entG (hf:κ→Int) (x:κ × Addr):Int × Value:=(hf x.1,.ref x.2)
noncomputable def sObjG (hf:κ→Int) (xs:List (κ × Addr)) (ep mask moves:Nat) (led:Bool) (pl:List Nat):Obj:={ cls:=.type "set",dict:=none,data:=.set (xs.map (entG hf)).toArray ep (tb mask moves led pl) }
noncomputable def hsOfG (hf:κ→Int) (xs:List (κ × Addr)):List Int:=xs.map fun x => hf x.1
noncomputable def IsStG (hf:κ→Int) (h:Heap) (a:Addr) (xs:List (κ × Addr)) (led:Bool):Prop:=∃ ep mask moves pl,h.get? a = some (sObjG hf xs ep mask moves led pl)∧Ok mask pl (hsOfG hf xs)
theorem IsStG.at {h h':Heap} {a:Addr} {xs:List (κ × Addr)} {led:Bool} (x:IsStG hf h a xs led) (e:∀ o,h.get? a = some o→h'.get? a = some o):IsStG hf h' a xs led:=let ⟨ep,mask,moves,pl,ho,ok⟩:=x; ⟨ep,mask,moves,pl,e _ ho,ok⟩
theorem fitsG {xs:List (κ × Addr)} {mask moves:Nat} {led:Bool} {pl:List Nat} (ok:Ok mask pl (hsOfG hf xs)):(tb mask moves led pl).fits (xs.map (entG hf)).toArray.size = true:=by
 have h1:=ok.len
 have h2:=ok.few
 unfold hsOfG at h1 h2
 rw [List.length_map] at h1 h2
 simp only [SetTable.fits,SetTable.fill,tb,List.size_toArray,List.length_map,Bool.and_eq_true,beq_iff_eq,decide_eq_true_eq]
 exact ⟨h1,by simp; omega⟩
end
section
variable {prog:Program} {w:World} {A:Around} {E:Value→Shared→Prop} {s:Shared} {κ:Type} [DecidableEq κ] {kk:Kk prog w κ}
theorem wp_unseenG {k:κ} {a:Addr} {ys:List Value} {Q:Bool→Shared→Prop} (hk:kk.is s.heap k a) (hy:∀ v ∈ ys,∃ k' b,v = .ref b∧kk.is s.heap k' b) (h:Q false s):wpAny (model prog w) A (searchCouldBeSeen (.ref a) ys) Q E s:=by
 unfold searchCouldBeSeen
 refine wpAny_bind ?_
 refine wpAny_forIn_list _ (fun rest r s' => r.1 = none∧s' = s∧∀ v ∈ rest,∃ k' b,v = Value.ref b∧kk.is s.heap k' b) _ ?_ ?_ _ _ ⟨rfl,rfl,hy⟩
 ·rintro v rest r s' ⟨hr,rfl,hall⟩
  obtain ⟨k',b,rfl,hb⟩:=hall v List.mem_cons_self
  have tl:∀ u ∈ rest,∃ k' b,u = Value.ref b∧kk.is s'.heap k' b:=fun u hu' => hall u (List.mem_cons_of_mem _ hu')
  dsimp only
  split
  ·exact wpAny_pure ⟨rfl,rfl,tl⟩
  ·refine wpAny_bind (kk.quiet hk ?_)
   simp only [Bool.not_true,Bool.false_eq_true,↓reduceIte]
   refine wpAny_bind (kk.quiet hb ?_)
   simp only [Bool.not_true,Bool.false_eq_true,↓reduceIte]
   refine wpAny_bind (kk.noClass hk ?_)
   simp only [Bool.false_eq_true,↓reduceIte]
   refine wpAny_bind (kk.noClass hb ?_)
   simp only [Bool.false_eq_true,↓reduceIte]
   exact wpAny_pure ⟨rfl,rfl,tl⟩
 ·rintro ⟨r1,r2⟩ s' ⟨hr,rfl,_⟩
  simp only at hr
  subst hr
  exact wpAny_pure h
theorem wp_ifseenG {α:Type} {c:Bool} {m:Sem Bool} {U R:Sem α} {Q:α→Shared→Prop} (hm:∀ Q':Bool→Shared→Prop,Q' false s→wpAny (model prog w) A m Q' E s) (h:wpAny (model prog w) A R Q E s):wpAny (model prog w) A (if c = true then (m >>= fun b => if b = true then U else R) else R) Q E s:=by
 cases c with
 | false => rw [if_neg Bool.false_ne_true]; exact h
 | true =>
  rw [if_pos rfl]
  refine wpAny_bind (hm _ ?_)
  rw [if_neg Bool.false_ne_true]; exact h
theorem wp_searchG {a:Addr} {xs:List (κ × Addr)} {ep mask moves:Nat} {led:Bool} {pl:List Nat} {k:κ} {b:Addr} {n0:Nat} {Q:SetFound→Shared→Prop} (hu:A.units + 1 < cLine) (ho:s.heap.get? a = some (sObjG kk.hs xs ep mask moves led pl)) (ok:Ok mask pl (hsOfG kk.hs xs))
  (hK:∀ x ∈ xs,kk.is s.heap x.1 x.2) (hk:kk.is s.heap k b) (hn0:n0 < 10 * SetTable.turns mask) (hE:(nth mask (kk.hs k) n0).j ∉ pl) (hL:∀ m,m < n0→(nth mask (kk.hs k) m).j ∈ pl)
  (h1:k ∈ xs.map (·.1)→Q (.there none) s) (h2:k ∉ xs.map (·.1)→Q (.free (nth mask (kk.hs k) n0).j false) s) :
  ∀ (fuel n:Nat) (stand:Option SetTable.Probe),n ≤ n0→n0 - n < fuel→stand.getD ((tb mask moves led pl).probeStart (kk.hs k)) = nth mask (kk.hs k) n→(∀ m,m < n→∀ (i:Nat) (x:κ × Addr),pl[i]? = some (nth mask (kk.hs k) m).j→xs[i]? = some x→x.1 ≠ k) →
   wpAny (model prog w) A (setSearchFrom a (.ref b) (kk.hs k) true fuel stand) Q E s:=by
 have hd:(sObjG kk.hs xs ep mask moves led pl).data = .set (xs.map (entG kk.hs)).toArray ep (tb mask moves led pl):=rfl
 have hfi:=fitsG (moves:=moves) (led:=led) ok
 have hgw:(tb mask moves led pl).gaveWay = false:=by
  show (mask % 2 == 0) = false
  rcases ok.mk' with rfl | rfl <;> rfl
 intro fuel
 induction fuel with
 | zero => intro n stand _ hlt; omega
 | succ fuel ih =>
  intro n stand hn hlt hst hpre
  unfold setSearchFrom
  refine wpAny_bind (wpAny_setState_of ho hd hfi ?_); dsimp only
  rw [hgw]
  simp only [Bool.false_eq_true,↓reduceIte]
  rw [hst]
  have hp:∀ (i:Nat) (x:κ × Addr),xs[i]? = some x→((((xs.map (entG kk.hs)).toArray)[i]?).map (·.1)).getD 0 = kk.hs x.1:=fun i x e => by simp [e,entG]
  have hrun:=go_run (mask:=mask) (moves:=moves) (led:=led) ok.up (fun i => ((((xs.map (entG kk.hs)).toArray)[i]?).map (·.1)).getD 0) (kk.hs k) n0 hE hL (n0 - n) n (10 * SetTable.turns mask) (by omega) (by omega)
  have lenx:pl.length = xs.length:=by have:=ok.len; unfold hsOfG at this; rwa [List.length_map] at this
  generalize hP:SetTable.probe (tb mask moves led pl) _ (kk.hs k) (nth mask (kk.hs k) n) = P
  rcases hrun with ⟨e,hno⟩ | ⟨m,i,m1,m2,m3,m4,e,hno⟩
  ·obtain rfl:=hP.symm.trans e
   dsimp only
   refine wpAny_pure (h2 fun hm => ?_)
   obtain ⟨x,hx,ek⟩:=List.mem_map.mp hm
   obtain ⟨i,hi⟩:=List.mem_iff_getElem?.mp hx
   have hi2:(hsOfG kk.hs xs)[i]? = some (kk.hs k):=by unfold hsOfG; rw [List.getElem?_map,hi,← ek]; rfl
   obtain ⟨m,a1,a2⟩:=ok.met hi2 hE
   by_cases hmn:m < n
   ·exact hpre m hmn i x a2 hi ek
   ·exact hno m (by omega) a1 i a2 (by rw [hp i x hi,ek])
  ·obtain rfl:=hP.symm.trans e
   dsimp only
   have hi:i < xs.length:=by rw [← lenx]; exact (List.getElem?_eq_some_iff.mp m3).1
   have hx:xs[i]? = some xs[i]:=List.getElem?_eq_getElem hi
   have hy:(xs.map (entG kk.hs)).toArray[i]? = some ((entG kk.hs) xs[i]):=by simp [hi]
   have hKi:=hK xs[i] (List.getElem_mem hi)
   refine wp_ifseenG (fun Q' q' => wp_unseenG hk (fun v hv => ?_) q') ?_
   ·obtain ⟨e',he',rfl⟩:=List.mem_map.mp hv
    have hm1:=(Array.mem_filter.mp (Array.mem_toList_iff.mp he')).1
    have hm2:e' ∈ xs.map (entG kk.hs):=by simpa using hm1
    obtain ⟨x,hx',rfl⟩:=List.mem_map.mp hm2
    exact ⟨x.1,x.2,rfl,hK x hx'⟩
   rw [hy]
   dsimp only [entG]
   refine wpAny_bind (wpAny_holding (kk.eqb hu hKi hk ?_))
   refine wpAny_bind (wpAny_setState_of ho hd hfi ?_); dsimp only
   by_cases ek:xs[i].1 = k
   ·rw [decide_eq_true ek]
    simp only [Bool.and_self,↓reduceIte]
    exact wpAny_pure (h1 (List.mem_map.mpr ⟨xs[i],List.getElem_mem hi,ek⟩))
   ·rw [decide_eq_false ek]
    simp only [Bool.and_false,Bool.false_eq_true,↓reduceIte]
    have hsm:(tb mask moves led pl).sameMemory (tb mask moves led pl).moves (tb mask moves led pl).mask = some true:=by simp [SetTable.sameMemory]
    rw [hsm]
    dsimp only
    simp only [↓reduceIte]
    rw [slot_live ok.up m3]
    dsimp only
    rw [hy]
    dsimp only [entG]
    refine wpAny_bind (wpAny_isSame_ref_self ?_)
    simp only [↓reduceIte]
    refine wpAny_bind (wpAny_pure ?_)
    dsimp only
    refine ih (m + 1) _ (by omega) (by omega) rfl fun m' hm' i' x hi' hx' => ?_
    by_cases c1:m' < n
    ·exact hpre m' c1 i' x hi' hx'
    ·by_cases c2:m' < m
     ·intro ex
      exact hno m' (by omega) c2 i' hi' (by rw [hp i' x hx',ex])
     ·have c3:m' = m:=by omega
      subst c3
      have ei:i' = i:=by rw [← rk_at ok.up hi',rk_at ok.up m3]
      subst ei
      rw [hx] at hx'; cases hx'; exact ek
end
end Gs
namespace Gs
open PySem PyProof.Rows Stb
section
variable {prog:Program} {w:World} {A:Around} {E:Value→Shared→Prop} {s:Shared} {κ:Type} [DecidableEq κ] {kk:Kk prog w κ}
theorem addG {a:Addr} {xs:List (κ × Addr)} {led:Bool} {k:κ} {b:Addr} {Q:Bool→Shared→Prop} (hu:A.units + 1 < cLine) (hS:IsStG kk.hs s.heap a xs led) (hK:∀ x ∈ xs,kk.is s.heap x.1 x.2) (hk:kk.is s.heap k b) (few:xs.length + 1 ≤ 18)
  (h:∀ r h' xs',Heap.SameBut a s.heap h'→IsStG kk.hs h' a xs' led→((k ∈ xs.map (·.1)∧xs' = xs) ∨ (k ∉ xs.map (·.1)∧xs'.Perm ((k,b) :: xs)))→Q r { s with heap:=h' }) :
  wpAny (model prog w) A (setAddHashed a (.ref b) (kk.hs k)) Q E s:=by
 obtain ⟨ep,mask,moves,pl,ho,ok⟩:=id hS
 have hd:(sObjG kk.hs xs ep mask moves led pl).data = .set (xs.map (entG kk.hs)).toArray ep (tb mask moves led pl):=rfl
 have hfi:=fitsG (moves:=moves) (led:=led) ok
 obtain ⟨n0,h1,h2,h3⟩:=ok.free (kk.hs k)
 have lenx:pl.length = xs.length:=by have:=ok.len; unfold hsOfG at this; rwa [List.length_map] at this
 have fewx:xs.length * 5 < mask * 3:=by have:=ok.few; unfold hsOfG at this; rwa [List.length_map] at this
 unfold setAddHashed setAddHashedIn
 refine wpAny_holding (wpAny_bind (wpAny_setState_of ho hd hfi ?_)); dsimp only
 have hbs:byScan (.ref b) (xs.map (entG kk.hs)).toArray = false:=by simp [byScan,Value.scannable]
 rw [hbs]
 simp only [Bool.false_eq_true,↓reduceIte]
 unfold setSearch
 refine wpAny_bind (wp_searchG hu ho ok hK hk h1 h2 h3 (fun hm => ?_) (fun hm => ?_) 100000 0 none (Nat.zero_le _) ?_ rfl fun m hm => absurd hm (by omega))
 ·dsimp only
  exact wpAny_pure (h _ s.heap xs (Heap.SameBut.refl a s.heap) hS (.inl ⟨hm,rfl⟩))
 ·dsimp only
  refine wpAny_bind (wpAny_setState_of ho hd hfi ?_); dsimp only
  rw [put_tb ok.up]
  dsimp only
  have hpl:(tb mask moves led (ins pl (rk (nth mask (kk.hs k) n0).j pl) (nth mask (kk.hs k) n0).j)).plain = true:=rfl
  rw [hpl]
  simp only [↓reduceIte]
  refine wpAny_bind (kk.byValue hk ?_)
  simp only [↓reduceIte]
  generalize hr:rk (nth mask (kk.hs k) n0).j pl = r at *
  have hrle:r ≤ xs.length:=by rw [← hr,← lenx]; exact rk_le _ _
  have eins:SetTable.insertAt (xs.map (entG kk.hs)).toArray r (kk.hs k,Value.ref b) = ((ins xs r (k,b)).map (entG kk.hs)).toArray:=by
   rw [insertAt_list]
   unfold ins
   rw [List.map_append,List.map_cons,List.map_take,List.map_drop]
   rfl
  rw [eins]
  have hlen:(ins xs r (k,b)).length = xs.length + 1:=len_ins hrle
  have hz:((ins xs r (k,b)).map (entG kk.hs)).toArray.size ≤ sizeLine:=by rw [List.size_toArray,List.length_map,hlen,sizeLine_eq]; omega
  refine wpAny_bind (wpAny_storeSet_of ho hd ?_ hz)
  have hlp:(ins pl r (nth mask (kk.hs k) n0).j).length = xs.length + 1:=by rw [len_ins (by omega),lenx]
  have hg:(s.heap.update a (Obj.putSet ((ins xs r (k,b)).map (entG kk.hs)).toArray (tb mask moves led (ins pl r (nth mask (kk.hs k) n0).j)))).get? a = some (sObjG kk.hs (ins xs r (k,b)) (ep + 1) mask moves led (ins pl r (nth mask (kk.hs k) n0).j)):=by
   have:=Heap.get?_update_self (Obj.putSet ((ins xs r (k,b)).map (entG kk.hs)).toArray (tb mask moves led (ins pl r (nth mask (kk.hs k) n0).j))) ho (by rw [putSet_of _ _ hd]; rfl)
   rw [putSet_of _ _ hd] at this; exact this
  have sb:=Heap.SameBut.update s.heap a (Obj.putSet ((ins xs r (k,b)).map (entG kk.hs)).toArray (tb mask moves led (ins pl r (nth mask (kk.hs k) n0).j)))
  have ehs:hsOfG kk.hs (ins xs r (k,b)) = ins (hsOfG kk.hs xs) r (kk.hs k):=by
   unfold hsOfG ins
   rw [List.map_append,List.map_cons,List.map_take,List.map_drop]
  rw [full_tb,hlp]
  by_cases fw:(xs.length + 1) * 5 < mask * 3
  ·rw [decide_eq_false (by omega)]
   simp only [Bool.and_false,Bool.false_eq_true,↓reduceIte]
   refine wpAny_pure (h _ _ (ins xs r (k,b)) sb ⟨ep + 1,mask,moves,_,hg,?_⟩ (.inr ⟨hm,perm_ins _ _ _⟩))
   rw [ehs,← hr]
   exact ok.put h2 h3 (by unfold hsOfG; rw [List.length_map]; exact fw)
  ·rw [decide_eq_true (by omega)]
   simp only [Bool.not_false,Bool.and_self,↓reduceIte]
   have m7:mask = 7:=by
    rcases ok.mk' with e | e
    ·exact e
    ·omega
   subst m7
   have l5:xs.length + 1 = 5:=by omega
   have esz:(xs.map (entG kk.hs)).toArray.size + 1 = 5:=by rw [List.size_toArray,List.length_map]; exact l5
   rw [esz]
   have hf2:(tb 7 moves led (ins pl r (nth 7 (kk.hs k) n0).j)).fits ((ins xs r (k,b)).map (entG kk.hs)).toArray.size = true:=by
    simp only [SetTable.fits,SetTable.fill,tb,List.size_toArray,List.length_map,Bool.and_eq_true,beq_iff_eq,decide_eq_true_eq]
    exact ⟨by omega,by simp; omega⟩
   refine wpAny_bind ?_
   unfold setRelay
   have hd2:(sObjG kk.hs (ins xs r (k,b)) (ep + 1) 7 moves led (ins pl r (nth 7 (kk.hs k) n0).j)).data = .set ((ins xs r (k,b)).map (entG kk.hs)).toArray (ep + 1) (tb 7 moves led (ins pl r (nth 7 (kk.hs k) n0).j)):=rfl
   refine wpAny_bind (wpAny_setState_of hg hd2 hf2 ?_); dsimp only
   rw [if_neg (by rw [sizeLine_eq]; decide)]
   have emap:((ins xs r (k,b)).map (entG kk.hs)).toArray.map (·.1) = (hsOfG kk.hs (ins xs r (k,b))).toArray:=by simp [hsOfG,entG]
   rw [emap]
   obtain ⟨pl',order,moves',e,perm,ok'⟩:=relaid_run moves led (ins pl r (nth 7 (kk.hs k) n0).j) (hsOfG kk.hs (ins xs r (k,b))) (by unfold hsOfG; rw [List.length_map,hlen]; exact l5)
   rw [e]
   have hlenh:(hsOfG kk.hs (ins xs r (k,b))).length = (ins xs r (k,b)).length:=by unfold hsOfG; rw [List.length_map]
   rw [hlenh] at perm
   have ordlt:∀ i ∈ order,i < (ins xs r (k,b)).length:=fun i hi => List.mem_range.mp (perm.mem_iff.mp hi)
   generalize hxs':(order.map fun i => (ins xs r (k,b)).getD i (k,b)) = xs'
   have xperm:xs'.Perm (ins xs r (k,b)):=by
    rw [← hxs']
    refine (perm.map _).trans (List.Perm.of_eq ?_)
    exact map_range _ _
   have ees:order.toArray.filterMap (fun i => ((ins xs r (k,b)).map (entG kk.hs)).toArray[i]?) = (xs'.map (entG kk.hs)).toArray:=by
    rw [List.filterMap_toArray]
    congr 1
    rw [← hxs']
    simp only [List.getElem?_toArray]
    rw [order_map _ ((entG kk.hs) (k,b)) order (by rw [List.length_map]; exact ordlt),List.map_map]
    refine List.map_congr_left fun i hi => ?_
    have:=ordlt i hi
    simp [this]
   have okx:Ok 31 pl' (hsOfG kk.hs xs'):=by
    have:(order.map fun i => (hsOfG kk.hs (ins xs r (k,b))).getD i 0) = hsOfG kk.hs xs':=by
     rw [← hxs']
     unfold hsOfG
     rw [List.map_map]
     refine List.map_congr_left fun i hi => ?_
     have:=ordlt i hi
     simp [this]
    rw [this] at ok'; exact ok'
   have lenx':xs'.length = (ins xs r (k,b)).length:=xperm.length_eq
   have hz':(xs'.map (entG kk.hs)).toArray.size ≤ sizeLine:=by rw [List.size_toArray,List.length_map,lenx',hlen,sizeLine_eq]; omega
   refine wpAny_bind ?_
   show wpAny _ _ (if ((order.toArray.filterMap (fun i => ((ins xs r (k,b)).map (entG kk.hs)).toArray[i]?)).size != ((ins xs r (k,b)).map (entG kk.hs)).toArray.size) = true then _ else pure (order.toArray.filterMap (fun i => ((ins xs r (k,b)).map (entG kk.hs)).toArray[i]?),tb 31 moves' led pl')) _ _ _
   rw [ees,if_neg (by simp [lenx'])]
   refine wpAny_pure ?_
   dsimp only
   refine wpAny_storeSet_of hg hd2 ?_ hz'
   have hg':((s.heap.update a (Obj.putSet ((ins xs r (k,b)).map (entG kk.hs)).toArray (tb 7 moves led (ins pl r (nth 7 (kk.hs k) n0).j)))).update a (Obj.putSet (xs'.map (entG kk.hs)).toArray (tb 31 moves' led pl'))).get? a = some (sObjG kk.hs xs' (ep + 1 + 1) 31 moves' led pl'):=by
    have:=Heap.get?_update_self (Obj.putSet (xs'.map (entG kk.hs)).toArray (tb 31 moves' led pl')) hg (by rw [putSet_of _ _ hd2]; rfl)
    rw [putSet_of _ _ hd2] at this; exact this
   refine wpAny_pure (h _ _ xs' (sb.trans (Heap.SameBut.update _ a _)) ⟨_,31,moves',pl',hg',okx⟩ (.inr ⟨hm,xperm.trans (perm_ins _ _ _)⟩))
 ·have:SetTable.turns mask ≤ 100:=by
   unfold SetTable.turns
   rcases ok.mk' with e | e <;> omega
  omega
end
end Gs
namespace Gs
open PySem PyProof.Rows Stb
section
variable {κ:Type} [DecidableEq κ]
structure AccG (val:Nat→κ × Addr) (i:Nat) (xs:List (κ × Addr)):Prop where
 nd:(xs.map (·.1)).Nodup
 of:∀ x ∈ xs,∃ j,j < i∧val j = x
 all:∀ j,j < i→(val j).1 ∈ xs.map (·.1)
theorem AccG.nil {val:Nat→κ × Addr}:AccG val 0 []:=⟨List.nodup_nil,fun x h => absurd h (by simp),fun j h => absurd h (by omega)⟩
theorem AccG.lenL {val:Nat→κ × Addr} {i:Nat} {xs:List (κ × Addr)} (a:AccG val i xs) (L:List κ) (h:∀ j,j < i→(val j).1 ∈ L):xs.length ≤ L.length:=by
 have h:=len_le_of_sub (xs.map (·.1)) L a.nd fun k hk => by
  obtain ⟨x,hx,rfl⟩:=List.mem_map.mp hk
  obtain ⟨j,hj,e⟩:=a.of x hx
  rw [← e]; exact h j hj
 simpa using h
theorem AccG.step {val:Nat→κ × Addr} {i:Nat} {xs xs':List (κ × Addr)} (a:AccG val i xs) (h:((val i).1 ∈ xs.map (·.1)∧xs' = xs) ∨ ((val i).1 ∉ xs.map (·.1)∧xs'.Perm ((val i) :: xs))):AccG val (i + 1) xs':=by
 rcases h with ⟨h1,rfl⟩ | ⟨h1,h2⟩
 ·refine ⟨a.nd,fun x hx => let ⟨j,hj,e⟩:=a.of x hx; ⟨j,by omega,e⟩,fun j hj => ?_⟩
  by_cases e:j = i
  ·subst e; exact h1
  ·exact a.all j (by omega)
 ·have hm:=h2.map (·.1)
  refine ⟨?_,fun x hx => ?_,fun j hj => ?_⟩
  ·rw [hm.nodup_iff,List.map_cons,List.nodup_cons]; exact ⟨h1,a.nd⟩
  ·rcases List.mem_cons.mp (h2.mem_iff.mp hx) with rfl | h
   ·exact ⟨i,by omega,rfl⟩
   ·obtain ⟨j,hj,e⟩:=a.of x h; exact ⟨j,by omega,e⟩
  ·rw [hm.mem_iff,List.map_cons,List.mem_cons]
   by_cases e:j = i
   ·subst e; exact .inl rfl
   ·exact .inr (a.all j (by omega))
end
section
variable {prog:Program} {w:World} {A:Around} {R:Result→Shared→Prop} {I:Addr} {fp wr:List Addr} {G:Array GenState→Array GenState→Prop} {n:Nat} {P:Nat→Value→Prop} {St:Nat→Shared→Prop} {led:Bool} {κ:Type} [DecidableEq κ] {kk:Kk prog w κ}
theorem loopG (hu:A.units + 2 < cLine) (W:WalksS prog w A.in1 I fp wr G n P St) (D:Addr) (hD:D ∉ fp) (val:Nat→κ × Addr) (hv:∀ i v,P i v→v = .ref (val i).2) (L:List κ) (hL:L.length ≤ 17) (hmL:∀ j,j < n→(val j).1 ∈ L) {h0:Heap} (hK0:∀ j,j < n→kk.is h0 (val j).1 (val j).2) (hnD:∀ b o,h0.get? b = some o→b ∉ D :: wr):∀ (k i:Nat) (s:Shared) (xs:List (κ × Addr)),n - i = k→i ≤ n→St i s→(∀ b o,h0.get? b = some o→s.heap.get? b = some o)→IsStG kk.hs s.heap D xs led→AccG val i xs →
  (∀ s' xs',Moved (D :: wr) G s s'→IsStG kk.hs s'.heap D xs' led→AccG val n xs'→R (.ok (.ret .none)) s')→codeAny (model prog w) A (.builtin "set.update.loop" ⟨[.ref D,.ref I],[]⟩) R s:=by
 have nw:D ∉ wr:=fun h => hD (W.sub _ h)
 have sub:∀ b ∈ wr,b ∈ D :: wr:=fun b hb => List.mem_cons_of_mem _ hb
 intro k
 induction k with
 | zero =>
  intro i s xs hk hi st hK hS hA hR
  obtain rfl:i = n:=by omega
  refine codeAny_builtin F.entry_set_update_loop ?_; rw [Around.under_plainId F.plain_set_update_loop _]
  show wpAny _ A.in1 (pyNext (.ref I) >>= _) _ _ s; refine wpAny_bind (W.done s _ _ st fun s' hm => ?_)
  show wpAny _ A.in1 (ret Value.none) _ _ s'
  exact wpAny_pure (hR s' xs (hm.mono sub) (hS.at fun o e => hm.heap D _ nw e) hA)
 | succ k ih =>
  intro i s xs hk hi st hK hS hA hR
  have hlt:i < n:=by omega
  refine codeAny_builtin F.entry_set_update_loop ?_; rw [Around.under_plainId F.plain_set_update_loop _]
  show wpAny _ A.in1 (pyNext (.ref I) >>= _) _ _ s; refine wpAny_bind (W.item i s _ _ hlt st fun v s' hP st' hm => ?_)
  obtain rfl:=hv i v hP
  have hB:∀ b o,h0.get? b = some o→s'.heap.get? b = some o:=fun b o e => hm.heap _ _ (fun z => hnD b o e (List.mem_cons_of_mem _ z)) (hK b o e)
  have hK':∀ j,j < n→kk.is s'.heap (val j).1 (val j).2:=fun j hj => kk.mono (hK0 j hj) hB
  have hA18:=hA.lenL L (fun j hj => hmL j (by omega))
  show wpAny _ A.in1 (holding [Value.ref (val i).2] (setAdd D (.ref (val i).2)) >>= _) _ _ s'
  refine wpAny_bind (wpAny_holding ?_); unfold setAdd; refine wpAny_holding ?_
  refine wpAny_bind (kk.hash (show A.in1.units + 1 < cLine from hu) (hK' i hlt) fun tk => ?_)
  refine addG (s:={ s' with toks:=s'.toks + tk }) (k:=(val i).1) (show A.in1.units + 1 < cLine from hu) (hS.at fun o e => hm.heap D _ nw e) (fun x hx => ?_) (hK' i hlt) (by omega) fun b h' xs' hsb hS2 hstep => ?_
  ·obtain ⟨j,hj,rfl⟩:=hA.of x hx
   exact hK' j (by omega)
  refine wpAny_pure ⟨plainId_quiet F.plain_set_update_loop _,ih (i + 1) _ xs' (by omega) hlt (W.frame _ s' _ _ st' (Nat.le_add_right _ _) fun b hb o e => ?_) (fun b o e => ?_) hS2 (hA.step hstep) fun s'' xs'' hm'' hS'' hA'' => ?_⟩
  ·rw [hsb.2 b (fun h:b = D => hD (by rw [← h]; exact hb))]; exact e
  ·rw [hsb.2 _ (fun h:b = D => hnD b o e (by rw [h]; exact List.mem_cons_self))]; exact hB b o e
  ·refine hR s'' xs'' (Moved.trans W.gtrans ((hm.mono sub).then_heap (Nat.le_add_right _ _) fun b o hb e => ?_) hm'') hS'' hA''
   rw [hsb.2 b (fun h:b = D => hb (by rw [h]; exact List.mem_cons_self))]; exact e
end
section
variable {prog:Program} {w:World} {A:Around} {E:Value→Shared→Prop} {s:Shared} {κ:Type} [DecidableEq κ] {kk:Kk prog w κ}
theorem newG (a:Value) {Q₁:Value→Shared→Prop} (h:Q₁ (.ref s.heap.objs.size) { s with heap:=s.heap.push (sObjG kk.hs [] 0 7 0 (!byT w) []) }) :
  codeAny (model prog w) A (.call (.builtin "set.__new__") ⟨[.type "set",a],[]⟩) (wants Q₁ E) s:=by
 refine codeAny_of_tree ?_
 show wpAny _ A.in1 (do checkBuiltinCall "set.__new__" ⟨[.type "set",a],[]⟩; again (.builtin "set.__new__" ⟨[.type "set",a],[]⟩)) _ _ s
 refine wpAny_bind (wpAny_of_eq (PySem.F.newCall_set_1 a) (wpAny_pure ⟨plainId_quiet PySem.F.plain_set_new _,codeAny_builtin PySem.F.entry_set_new ?_⟩))
 rw [Around.under_plainId PySem.F.plain_set_new _]; unfold Builtin.«set.__new__» Builtin.Frozenset.newClass
 have hsub:=PySem.sub_set_self
 obtain ⟨hp,g,d,tk,os⟩:=s
 dsimp only; wp_walk
 refine wpAny_askSetting (wpAny_pure ?_); dsimp only; simp only [newObj]
 refine wpAny_bind (wpAny_alloc (wpAny_pure ?_)); exact wpAny_pure h
theorem setG_list {l:Addr} {items:Array Value} {val:Nat→κ × Addr} {Q:Value→Shared→Prop} (hu:A.units + 8 < cLine) (hh:A.handled = none) (hl:s.heap.IsList l items) (hv:∀ (i:Nat) (v:Value),items[i]? = some v→v = .ref (val i).2) (hK:∀ i,i < items.size→kk.is s.heap (val i).1 (val i).2) (L:List κ) (hL:L.length ≤ 17) (hmL:∀ j,j < items.size→(val j).1 ∈ L)
  (h:∀ (h':Heap) (tk:Nat) (xs:List (κ × Addr)),IsStG kk.hs h' s.heap.objs.size xs (!byT w)→AccG val items.size xs→(∀ b o,b < s.heap.objs.size→s.heap.get? b = some o→h'.get? b = some o)→Q (.ref s.heap.objs.size) { s with heap:=h',toks:=tk }) :
  wpAny (model prog w) A (call (.type "set") [.ref l]) Q E s:=by
 obtain ⟨c,tl,hmro⟩:=PySem.F.called_set.mro
 have hmade:=PySem.F.called_set.made
 have hsub:=PySem.F.called_set.sub
 refine wpAny_call (codeAny_of_tree ?_)
 show wpAny _ _ (callAny (.type "set") _) _ _ _
 refine wpAny_pure ⟨Code.quiet_builtin _ (by decide +kernel),codeAny_builtin PySem.F.entry_type_call ?_⟩
 rw [Around.under_plain (weight_type_call_type "set" [.ref l] []) rfl]
 have h1:=PySem.F.called_set.notType
 have h2:=PySem.F.called_set.canCreate
 have hct:=PySem.F.typeCall_set_1 (.ref l)
 repeat (any_goals (first | assumption | wp_step))
 refine codeAny_mono (newG (.ref l) (E:=E) (Q₁:=fun obj s₁ => obj = .ref s.heap.objs.size∧s₁ = { s with heap:=s.heap.push (sObjG kk.hs [] 0 7 0 (!byT w) []) }) ⟨rfl,rfl⟩) fun r s₁ hr => ?_
 cases r with
 | error e => exact hr
 | ok fl =>
  cases fl with
  | ret obj =>
   obtain ⟨rfl,rfl⟩:=hr
   have hS:(s.heap.push (sObjG kk.hs [] 0 7 0 (!byT w) [])).get? s.heap.objs.size = some (sObjG kk.hs [] 0 7 0 (!byT w) []):=Heap.get?_push_size _ rfl
   have hT:Shared.TypeIs { s with heap:=s.heap.push (sObjG kk.hs [] 0 7 0 (!byT w) []) } (.ref s.heap.objs.size) "set":=⟨_,hS,rfl⟩
   have hli:=PySem.F.called_set.init.lookup
   have hbi:=PySem.F.called_set.init.bind (.ref s.heap.objs.size)
   repeat (any_goals (first | assumption | wp_step))
   refine codeAny_mono (codeAny_call_builtin (R:=wants (fun r s₂ => r = .none∧∃ h' tk xs,s₂ = { s with heap:=h',toks:=tk }∧IsStG kk.hs h' s.heap.objs.size xs (!byT w)∧AccG val items.size xs ∧
     (∀ b o,b < s.heap.objs.size→s.heap.get? b = some o→h'.get? b = some o)) E) PySem.F.called_set.init.plain PySem.F.entry_set_init (check_set_init_1 hT ?_)) fun r₂ s₂ hr₂ => ?_
   ·obtain ⟨ol,hol,hcl,nl,hdl⟩:=hl
    obtain ⟨ocls,odict,odata,oslots⟩:=ol
    simp only at hcl hdl
    subst hcl; subst hdl
    have hol':(s.heap.push (sObjG kk.hs [] 0 7 0 (!byT w) [])).get? l = some { cls:=.type "list",dict:=odict,data:=.seq items nl,slots:=oslots }:=Heap.get?_push_of_some _ hol
    have hsls:=PySem.F.sub_list_set
    have hslf:=PySem.F.sub_list_frozenset
    have hne:(Value.type "list" == Value.type "dict") = false:=by decide
    have hl1:(s.heap.push (sObjG kk.hs [] 0 7 0 (!byT w) [])).IsList l items:=⟨_,hol',rfl,nl,rfl⟩
    unfold Builtin.«set.__init__» noKeywords Builtin.Frozenset.updateFrom
    generalize hPI:pyIter = PI
    wp_walk
    subst hPI
    refine wpAny_pyIter_list hl1 ?_; refine wpAny_bind (wpAny_runValue ?_)
    have hlS:l < s.heap.objs.size:=Heap.lt_size hol
    have hh3:A.in1.in1.in1.handled = none:=by simp [hh]
    have hneI:l ≠ (s.heap.push (sObjG kk.hs [] 0 7 0 (!byT w) [])).objs.size:=by rw [Heap.size_push]; exact Nat.ne_of_lt (Nat.lt_succ_of_lt hlS)
    have hSf:s.heap.objs.size ∉ [(s.heap.push (sObjG kk.hs [] 0 7 0 (!byT w) [])).objs.size,l]:=by
     rw [Heap.size_push]; intro hm
     rcases List.mem_cons.mp hm with e | e
     ·exact absurd e (Nat.ne_of_lt (Nat.lt_succ_self _))
     ·exact absurd (List.mem_singleton.mp e) (Nat.ne_of_gt hlS)
    refine loopG (kk:=kk) (h0:=s.heap) (by show A.units + 1 + 1 + 2 < cLine; omega) ((Walks.list hh3 _ l hneI items).toS) s.heap.objs.size hSf val hv L hL hmL hK (fun b o e hmm => ?_) (items.size - 0) 0 _ [] (by omega) (Nat.zero_le _) ⟨⟨_,Heap.get?_push_size _ rfl,rfl,rfl⟩,(hl1.push _)⟩ (fun b o e => Heap.get?_push_of_some _ (Heap.get?_push_of_some _ e)) (show IsStG kk.hs _ _ [] (!byT w) from ⟨0,7,0,[],Heap.get?_push_of_some _ hS,Ok.nil⟩) AccG.nil ?_
    ·have z1:=Heap.lt_size e
     rcases List.mem_cons.mp hmm with z | z
     ·exact Nat.ne_of_lt z1 z
     ·rw [Heap.size_push] at z
      exact Nat.ne_of_lt (Nat.lt_succ_of_lt z1) (List.mem_singleton.mp z)
    intro s' xs' hm hS' hA'
    obtain ⟨h',g',d',tk',os'⟩:=s'
    have eg:g' = s.gens:=hm.gens
    have ed:d' = s.drawn:=hm.drawn
    have eo:os' = s.os:=hm.os
    subst eg; subst ed; subst eo
    show wpAny _ _ _ _ _ _; refine wpAny_pure ?_; show wpAny _ _ (ret Value.none) _ _ _
    refine wpAny_pure ⟨rfl,h',tk',xs',rfl,hS',hA',fun b o hb e => ?_⟩
    refine hm.heap b o (fun hmm => ?_) (Heap.get?_push_of_some _ (Heap.get?_push_of_some _ e))
    rcases List.mem_cons.mp hmm with z | z
    ·exact Nat.ne_of_lt hb z
    ·rw [Heap.size_push] at z
     exact Nat.ne_of_lt (Nat.lt_succ_of_lt hb) (List.mem_singleton.mp z)
   ·cases r₂ with
    | error e => exact hr₂
    | ok fl₂ =>
     cases fl₂ with
     | ret r =>
      obtain ⟨rfl,h',tk,xs',rfl,hS',hA',hk'⟩:=hr₂
      repeat (any_goals (first | assumption | wp_step))
      exact h _ _ _ hS' hA' hk'
     | _ => exact hr₂.elim
  | _ => exact hr.elim
theorem setG_tup {l:Addr} {items:Array Value} {val:Nat→κ × Addr} {Q:Value→Shared→Prop} (hu:A.units + 8 < cLine) (hh:A.handled = none) (hl:s.heap.IsTuple l items) (hv:∀ (i:Nat) (v:Value),items[i]? = some v→v = .ref (val i).2) (hK:∀ i,i < items.size→kk.is s.heap (val i).1 (val i).2) (L:List κ) (hL:L.length ≤ 17) (hmL:∀ j,j < items.size→(val j).1 ∈ L)
  (h:∀ (h':Heap) (tk:Nat) (xs:List (κ × Addr)),IsStG kk.hs h' s.heap.objs.size xs (!byT w)→AccG val items.size xs→(∀ b o,b < s.heap.objs.size→s.heap.get? b = some o→h'.get? b = some o)→Q (.ref s.heap.objs.size) { s with heap:=h',toks:=tk }) :
  wpAny (model prog w) A (call (.type "set") [.ref l]) Q E s:=by
 obtain ⟨c,tl,hmro⟩:=PySem.F.called_set.mro
 have hmade:=PySem.F.called_set.made
 have hsub:=PySem.F.called_set.sub
 refine wpAny_call (codeAny_of_tree ?_)
 show wpAny _ _ (callAny (.type "set") _) _ _ _
 refine wpAny_pure ⟨Code.quiet_builtin _ (by decide +kernel),codeAny_builtin PySem.F.entry_type_call ?_⟩
 rw [Around.under_plain (weight_type_call_type "set" [.ref l] []) rfl]
 have h1:=PySem.F.called_set.notType
 have h2:=PySem.F.called_set.canCreate
 have hct:=PySem.F.typeCall_set_1 (.ref l)
 repeat (any_goals (first | assumption | wp_step))
 refine codeAny_mono (newG (.ref l) (E:=E) (Q₁:=fun obj s₁ => obj = .ref s.heap.objs.size∧s₁ = { s with heap:=s.heap.push (sObjG kk.hs [] 0 7 0 (!byT w) []) }) ⟨rfl,rfl⟩) fun r s₁ hr => ?_
 cases r with
 | error e => exact hr
 | ok fl =>
  cases fl with
  | ret obj =>
   obtain ⟨rfl,rfl⟩:=hr
   have hS:(s.heap.push (sObjG kk.hs [] 0 7 0 (!byT w) [])).get? s.heap.objs.size = some (sObjG kk.hs [] 0 7 0 (!byT w) []):=Heap.get?_push_size _ rfl
   have hT:Shared.TypeIs { s with heap:=s.heap.push (sObjG kk.hs [] 0 7 0 (!byT w) []) } (.ref s.heap.objs.size) "set":=⟨_,hS,rfl⟩
   have hli:=PySem.F.called_set.init.lookup
   have hbi:=PySem.F.called_set.init.bind (.ref s.heap.objs.size)
   repeat (any_goals (first | assumption | wp_step))
   refine codeAny_mono (codeAny_call_builtin (R:=wants (fun r s₂ => r = .none∧∃ h' tk xs,s₂ = { s with heap:=h',toks:=tk }∧IsStG kk.hs h' s.heap.objs.size xs (!byT w)∧AccG val items.size xs ∧
     (∀ b o,b < s.heap.objs.size→s.heap.get? b = some o→h'.get? b = some o)) E) PySem.F.called_set.init.plain PySem.F.entry_set_init (check_set_init_1 hT ?_)) fun r₂ s₂ hr₂ => ?_
   ·obtain ⟨ol,hol,hcl,nl,hdl⟩:=hl
    obtain ⟨ocls,odict,odata,oslots⟩:=ol
    simp only at hcl hdl
    subst hcl; subst hdl
    have hol':(s.heap.push (sObjG kk.hs [] 0 7 0 (!byT w) [])).get? l = some { cls:=.type "tuple",dict:=odict,data:=.seq items nl,slots:=oslots }:=Heap.get?_push_of_some _ hol
    have hsls:isSubtype (.type "tuple") (.type "set") = pure false:=by rw [isSubtype_type]; kernel_rfl
    have hslf:isSubtype (.type "tuple") (.type "frozenset") = pure false:=by rw [isSubtype_type]; kernel_rfl
    have hne:(Value.type "tuple" == Value.type "dict") = false:=by decide
    have hl1:(s.heap.push (sObjG kk.hs [] 0 7 0 (!byT w) [])).IsTuple l items:=⟨_,hol',rfl,nl,rfl⟩
    unfold Builtin.«set.__init__» noKeywords Builtin.Frozenset.updateFrom
    generalize hPI:pyIter = PI
    wp_walk
    subst hPI
    refine wpAny_pyIter_tuple hl1 ?_; refine wpAny_bind (wpAny_runValue ?_)
    have hlS:l < s.heap.objs.size:=Heap.lt_size hol
    have hh3:A.in1.in1.in1.handled = none:=by simp [hh]
    have hneI:l ≠ (s.heap.push (sObjG kk.hs [] 0 7 0 (!byT w) [])).objs.size:=by rw [Heap.size_push]; exact Nat.ne_of_lt (Nat.lt_succ_of_lt hlS)
    have hSf:s.heap.objs.size ∉ [(s.heap.push (sObjG kk.hs [] 0 7 0 (!byT w) [])).objs.size,l]:=by
     rw [Heap.size_push]; intro hm
     rcases List.mem_cons.mp hm with e | e
     ·exact absurd e (Nat.ne_of_lt (Nat.lt_succ_self _))
     ·exact absurd (List.mem_singleton.mp e) (Nat.ne_of_gt hlS)
    refine loopG (kk:=kk) (h0:=s.heap) (by show A.units + 1 + 1 + 2 < cLine; omega) ((Walks.tuple hh3 _ l hneI items).toS) s.heap.objs.size hSf val hv L hL hmL hK (fun b o e hmm => ?_) (items.size - 0) 0 _ [] (by omega) (Nat.zero_le _) ⟨⟨_,Heap.get?_push_size _ rfl,rfl,rfl⟩,(hl1.push _)⟩ (fun b o e => Heap.get?_push_of_some _ (Heap.get?_push_of_some _ e)) (show IsStG kk.hs _ _ [] (!byT w) from ⟨0,7,0,[],Heap.get?_push_of_some _ hS,Ok.nil⟩) AccG.nil ?_
    ·have z1:=Heap.lt_size e
     rcases List.mem_cons.mp hmm with z | z
     ·exact Nat.ne_of_lt z1 z
     ·rw [Heap.size_push] at z
      exact Nat.ne_of_lt (Nat.lt_succ_of_lt z1) (List.mem_singleton.mp z)
    intro s' xs' hm hS' hA'
    obtain ⟨h',g',d',tk',os'⟩:=s'
    have eg:g' = s.gens:=hm.gens
    have ed:d' = s.drawn:=hm.drawn
    have eo:os' = s.os:=hm.os
    subst eg; subst ed; subst eo
    show wpAny _ _ _ _ _ _; refine wpAny_pure ?_; show wpAny _ _ (ret Value.none) _ _ _
    refine wpAny_pure ⟨rfl,h',tk',xs',rfl,hS',hA',fun b o hb e => ?_⟩
    refine hm.heap b o (fun hmm => ?_) (Heap.get?_push_of_some _ (Heap.get?_push_of_some _ e))
    rcases List.mem_cons.mp hmm with z | z
    ·exact Nat.ne_of_lt hb z
    ·rw [Heap.size_push] at z
     exact Nat.ne_of_lt (Nat.lt_succ_of_lt hb) (List.mem_singleton.mp z)
   ·cases r₂ with
    | error e => exact hr₂
    | ok fl₂ =>
     cases fl₂ with
     | ret r =>
      obtain ⟨rfl,h',tk,xs',rfl,hS',hA',hk'⟩:=hr₂
      repeat (any_goals (first | assumption | wp_step))
      exact h _ _ _ hS' hA' hk'
     | _ => exact hr₂.elim
  | _ => exact hr.elim
end
end Gs
namespace Gs
open PySem PyProof.Rows Stb
noncomputable def ordG {κ:Type} (hf:κ→Int) (w:World) (a:Addr) (xs:List (κ × Addr)) (ep:Nat):List Value:=((if byT w = true then pickOrder (w.params.setOrder a ep) (xs.map (entG hf)).toArray else (xs.map (entG hf)).toArray).toList).map (·.2)
theorem ordG_perm {κ:Type} (hf:κ→Int) (w:World) (a:Addr) (xs:List (κ × Addr)) (ep:Nat):(ordG hf w a xs ep).Perm (xs.map fun x => Value.ref x.2):=by
 have e:(xs.map (entG hf)).toArray.toList.map (·.2) = xs.map fun x => Value.ref x.2:=by simp [entG,Function.comp_def]
 unfold ordG
 by_cases h:byT w = true
 ·rw [if_pos h,← e]
  exact (pick_perm _ _).map _
 ·rw [if_neg h,e]
section
variable {prog:Program} {w:World} {A:Around} {E:Value→Shared→Prop} {s:Shared} {κ:Type} {hf:κ→Int}
theorem nextG {a:Addr} {xs:List (κ × Addr)} {ep mask moves i:Nat} {pl:List Nat} {Q:Option (Value × Nat)→Shared→Prop} (ho:s.heap.get? a = some (sObjG hf xs ep mask moves (!byT w) pl)) (ok:Ok mask pl (hsOfG hf xs)) (hi:i ≤ xs.length) (h:Q (((ordG hf w a xs ep)[i]?).map fun v => (v,nslot w pl (i + 1))) s) :
  wpAny (model prog w) A (setNext a (nslot w pl i) i ep) Q E s:=by
 have hd:(sObjG hf xs ep mask moves (!byT w) pl).data = .set (xs.map (entG hf)).toArray ep (tb mask moves (!byT w) pl):=rfl
 have hfi:=fitsG (moves:=moves) (led:=!byT w) ok
 have lenx:pl.length = xs.length:=by have:=ok.len; unfold hsOfG at this; rwa [List.length_map] at this
 unfold setNext setsByText
 refine wpAny_bind (wpAny_setState_of ho hd hfi ?_); dsimp only
 refine wpAny_bind (wpAny_bind (wpAny_askSetting (wpAny_pure ?_)))
 show wpAny _ _ (if byT w = true then _ else _) _ _ _
 unfold ordG nslot at h
 unfold nslot
 by_cases hb:byT w = true
 ·rw [if_pos hb] at h ⊢
  rw [if_pos hb] at h
  rw [if_pos hb]
  rw [if_neg (by simp)]
  refine wpAny_bind ?_
  unfold setWalk setsByText
  refine wpAny_bind ( (wpAny_setState_of ho hd hfi ?_)); dsimp only
  refine wpAny_bind (wpAny_bind (wpAny_askSetting (wpAny_pure ?_)))
  show wpAny _ _ (if byT w = true then _ else _) _ _ _
  rw [if_pos hb]
  refine wpAny_bind (wpAny_askSetting (wpAny_pure ?_))
  refine wpAny_pure ?_
  rw [List.getElem?_map,Array.getElem?_toList,Option.map_map] at h
  exact h
 ·rw [if_neg hb] at h ⊢
  rw [if_neg hb] at h
  rw [if_neg hb]
  have hb':byT w = false:=by simpa using hb
  show wpAny _ _ (if (!true && decide ((xs.map (entG hf)).toArray.size > 1)) = true then _ else _) _ _ _
  rw [if_neg (by simp)]
  show wpAny _ _ ((if (!(!byT w) && !(xs.map (entG hf)).toArray.isEmpty) = true then unsupported "set:maker-not-led" else pure ()) >>= _) _ _ _
  rw [hb',if_neg (by simp)]
  refine wpAny_bind (wpAny_pure (wpAny_pure ?_))
  show Q (match (xs.map (entG hf)).toArray[SetTable.below pl.toArray (slot pl i)]?,pl.toArray[SetTable.below pl.toArray (slot pl i)]? with | some (_,x),some j => some (x,j + 1) | _,_ => none) s
  rw [below_slot ok.up i (by omega)]
  rw [List.getElem?_map,Array.getElem?_toList] at h
  by_cases hl:i < xs.length
  ·have hl2:i < pl.length:=by omega
   have e1:(xs.map (entG hf)).toArray[i]? = some ((entG hf) xs[i]):=by simp [hl]
   have e2:pl.toArray[i]? = some pl[i]:=by simp [hl2]
   rw [e1] at h ⊢
   rw [e2]
   have e3:slot pl (i + 1) = pl[i] + 1:=by unfold slot; rw [if_neg (by omega)]; simp [hl2]
   rw [e3] at h
   exact h
  ·have e1:(xs.map (entG hf)).toArray[i]? = none:=by simp; omega
   rw [e1] at h ⊢
   exact h
end
theorem ordG_len {κ:Type} (hf:κ→Int) (w:World) (a:Addr) (xs:List (κ × Addr)) (ep:Nat):(ordG hf w a xs ep).length = xs.length:=by rw [(ordG_perm hf w a xs ep).length_eq,List.length_map]
section
variable {prog:Program} {w:World} {A:Around} {E:Value→Shared→Prop} {s:Shared} {κ:Type} {hf:κ→Int}
theorem setIterG {a:Addr} {xs:List (κ × Addr)} {ep mask moves:Nat} {pl:List Nat} {Q:Value→Shared→Prop} (ho:s.heap.get? a = some (sObjG hf xs ep mask moves (!byT w) pl)) (ok:Ok mask pl (hsOfG hf xs))
  (h:Q (.ref s.heap.objs.size) { s with heap:=s.heap.push { cls:=.type "set_iterator",data:=.fields #[.int 0 0,.int 0 0,.ref a,.int xs.length 0,.int ep 0] } }):wpAny (model prog w) A (pyIter (.ref a)) Q E s:=by
 have hd:(sObjG hf xs ep mask moves (!byT w) pl).data = .set (xs.map (entG hf)).toArray ep (tb mask moves (!byT w) pl):=rfl
 have hfi:=fitsG (moves:=moves) (led:=!byT w) ok
 have hTy:s.TypeIs (.ref a) "set":=⟨_,ho,rfl⟩
 refine wpAny_pyIter_slot hTy PySem.F.slot_set_iter (wpAny_call_entry PySem.F.slot_set_iter hTy entry_iter ?_ (PySem.F.args_set_iter_1 _))
 unfold Builtin.«frozenset.__iter__»
 refine wpAny_bind (wpAny_pure ?_)
 unfold Builtin.Frozenset.sizeOf
 refine wpAny_bind (wpAny_bind (wpAny_setEntries_of ho hd hfi (wpAny_pure ?_)))
 refine wpAny_bind ?_
 unfold setDrawn setsByText
 refine wpAny_bind (wpAny_setState_of ho hd hfi ?_); dsimp only
 refine wpAny_bind (wpAny_bind (wpAny_askSetting (wpAny_pure ?_)))
 refine wpAny_pure ?_
 show wpAny _ _ (if (!byT w && (!true && decide ((xs.map (entG hf)).toArray.size > 1))) = true then _ else _) _ _ _
 rw [if_neg (by simp)]
 refine wpAny_bind (wpAny_pure ?_)
 unfold setEpoch
 refine wpAny_bind (wpAny_bind (wpAny_setState_of ho hd hfi (wpAny_pure ?_)))
 unfold newFields
 refine wpAny_bind (wpAny_newObj_type (wpAny_pure ⟨_,rfl,"set_iterator",_,⟨_,Heap.get?_push_size _ rfl,rfl⟩,slot_next.lookup,?_⟩) (by simp [sizeOk,sizeLine_eq]))
 rw [show (xs.map (entG hf)).toArray.size = xs.length by rw [List.size_toArray,List.length_map]]
 exact h
theorem walkG (hh:A.handled = none) (I a:Addr) (hne:a ≠ I) {xs:List (κ × Addr)} {ep mask moves:Nat} {pl:List Nat} (ok:Ok mask pl (hsOfG hf xs)) :
  Walks prog w A I [I,a] [I] xs.length (fun i v => (ordG hf w a xs ep)[i]? = some v) (fun i h => IsSetIt h I a (nslot w pl i) i xs.length ep∧h.get? a = some (sObjG hf xs ep mask moves (!byT w) pl)) where
 sub:=fun b hb => by simp at hb; simp [hb]
 frame:=fun _ _ _ st hk => ⟨hk I (by simp) _ st.1,hk a (by simp) _ st.2⟩
 item:=fun i s Q E hi st hQ => by
  obtain ⟨hit,ho⟩:=st
  have hd:(sObjG hf xs ep mask moves (!byT w) pl).data = .set (xs.map (entG hf)).toArray ep (tb mask moves (!byT w) pl):=rfl
  have hfi:=fitsG (moves:=moves) (led:=!byT w) ok
  have hTy:s.TypeIs (.ref I) "set_iterator":=⟨_,hit,rfl⟩
  have hlt:i < (ordG hf w a xs ep).length:=by rw [ordG_len]; exact hi
  unfold pyNext
  refine wpAny_bind (wpAny_attempt (wpAny_callSpecial?_slot (name:=Str.ofString "__next__") hTy slot_next (wpAny_call_entry slot_next hTy entry_next ?_ (args_next _))))
  unfold Builtin.«set_iterator.__next__»
  refine wpAny_bind (wpAny_pure ?_)
  refine wpAny_bind (wpAny_fieldsOf hit rfl ?_)
  refine wpAny_bind (wpAny_setEntries_of ho hd hfi ?_)
  rw [if_neg (by rw [List.size_toArray,List.length_map]; simp)]
  refine wpAny_bind (nextG (i:=i) (ep:=ep) ho ok (Nat.le_of_lt hi) ?_)
  rw [List.getElem?_eq_getElem hlt]
  refine wpAny_bind (wpAny_setField_rec hit (by simp) fun h1 g1 s1 => ?_)
  refine wpAny_bind (wpAny_setField_rec g1 (by simp) fun h2 g2 s2 => ?_)
  refine wpAny_pure ⟨_,rfl,wpAny_pure ?_⟩
  refine hQ _ h2 s.toks (List.getElem?_eq_getElem hlt) ⟨?_,?_⟩ fun b o hb e => ?_
  ·have e:((i + 1:Nat):Int) = (i:Int) + 1:=by omega
   unfold IsSetIt; rw [e]; simpa [rawInt] using g2
  ·exact (s2.2 a hne).trans ((s1.2 a hne).trans ho)
  ·have:b ≠ I:=fun z => hb (by simp [z])
   exact (s2.2 b this).trans ((s1.2 b this).trans e)
 done:=fun s Q E st hQ => by
  obtain ⟨hit,ho⟩:=st
  have hd:(sObjG hf xs ep mask moves (!byT w) pl).data = .set (xs.map (entG hf)).toArray ep (tb mask moves (!byT w) pl):=rfl
  have hfi:=fitsG (moves:=moves) (led:=!byT w) ok
  have hTy:s.TypeIs (.ref I) "set_iterator":=⟨_,hit,rfl⟩
  unfold pyNext
  refine wpAny_bind (wpAny_attempt (wpAny_callSpecial?_slot (name:=Str.ofString "__next__") hTy slot_next (wpAny_call_entry slot_next hTy entry_next ?_ (args_next _))))
  unfold Builtin.«set_iterator.__next__»
  refine wpAny_bind (wpAny_pure ?_)
  refine wpAny_bind (wpAny_fieldsOf hit rfl ?_)
  refine wpAny_bind (wpAny_setEntries_of ho hd hfi ?_)
  rw [if_neg (by rw [List.size_toArray,List.length_map]; simp)]
  refine wpAny_bind (nextG (i:=xs.length) (ep:=ep) ho ok (Nat.le_refl _) ?_)
  rw [List.getElem?_eq_none (by rw [ordG_len]; exact Nat.le_refl _)]
  refine wpAny_bind (wpAny_setField hit rfl (by simp) ?_)
  show wpAny _ _ (newExc (.type "StopIteration") [] >>= _) _ _ _; refine wpAny_bind ?_; simp only [newExc,newTuple]
  refine wpAny_bind (wpAny_newObj_type ?_ (by size_fits)); refine wpAny_bind (m:=firstArgMember _ _) (wpAny_of_eq (a:=Value.none) (by first | rfl | (simp only [firstArgMember]; rfl)) ?_)
  refine wpAny_newObj_type ?_ (by size_fits); simp only [raiseNew]; refine wpAny_bind (wpAny_handled ?_); rw [show A.in1.handled = none from hh]
  refine wpAny_bind (wpAny_pure (wpAny_throw ?_)); refine wpAny_bind (wpAny_isInstance (T:="StopIteration") (b:=true) ⟨_,Heap.get?_push_size _ rfl,rfl⟩ isSubtype_stop ?_)
  have go:∀ h':Heap,Heap.ExtBut I s.heap h'→Q none { s with heap:=h',toks:=s.toks }:=fun h' hx => hQ h' s.toks fun b o hb e => hx b o (fun z => hb (by simp [z])) e
  exact wpAny_pure (go _ (((Heap.SameBut.update ..).extBut.push _).push _))
 self:=fun i s Q E st hQ => by
  have hTy:s.TypeIs (.ref I) "set_iterator":=⟨_,st.1,rfl⟩
  refine wpAny_pyIter_slot hTy slot_self (wpAny_call_entry slot_self hTy entry_self ?_ (args_self _))
  show wpAny _ _ (ret (.ref I)) _ _ s
  exact wpAny_pure ⟨_,rfl,"set_iterator",_,hTy,slot_next.lookup,hQ⟩
end
section
variable {prog:Program} {w:World} {A:Around} {E:Value→Shared→Prop} {s:Shared} {κ:Type} {hf:κ→Int}
theorem collectG {a:Addr} {xs:List (κ × Addr)} {ep mask moves:Nat} {pl:List Nat} {Q:List Value→Shared→Prop} (hh:A.handled = none) (ho:s.heap.get? a = some (sObjG hf xs ep mask moves (!byT w) pl)) (ok:Ok mask pl (hsOfG hf xs)) (h18:xs.length ≤ 1000)
  (h:∀ h1 tk,(∀ b o,s.heap.get? b = some o→h1.get? b = some o)→s.heap.objs.size ≤ h1.objs.size→Q (ordG hf w a xs ep) { s with heap:=h1,toks:=tk }):wpAny (model prog w) A (collect (.ref a)) Q E s:=by
 have la:a < s.heap.objs.size:=Heap.lt_size ho
 unfold collect
 refine wpAny_bind (wpAny_runValue (codeAny_builtin PySem.F.entry_proto_collect ?_))
 rw [Around.under_plainId PySem.F.plain_proto_collect _]
 show wpAny _ A.in1 (newList [] >>= fun l => again (.builtin "list.__iadd__" ⟨[l,.ref a],[]⟩)) _ _ s
 refine wpAny_bind (wpAny_newObj_type (wpAny_pure ⟨plainId_quiet PySem.F.plain_list_iadd _,codeAny_builtin PySem.F.entry_list_iadd ?_⟩))
 rw [Around.under_plainId PySem.F.plain_list_iadd _]
 generalize hg1:s.heap.push { cls:=.type "list",data:=.seq ([]:List Value).toArray } = g1
 have k1:∀ b o,s.heap.get? b = some o→g1.get? b = some o:=fun b o e => by rw [← hg1]; exact Heap.get?_push_of_some _ e
 have l1:g1.get? s.heap.objs.size = some { cls:=.type "list",data:=.seq #[] }:=by rw [← hg1]; exact Heap.get?_push_size _ rfl
 have z1:g1.objs.size = s.heap.objs.size + 1:=by rw [← hg1,Heap.size_push]
 have o1:=k1 _ _ ho
 have hT1:Shared.TypeIs { s with heap:=g1 } (.ref a) "set":=⟨_,o1,rfl⟩
 have neA:s.heap.objs.size ≠ a:=Nat.ne_of_gt la
 show wpAny _ A.in1 (Builtin.List.listExtendWith (.ref s.heap.objs.size) (.ref a) (.ref s.heap.objs.size)) _ _ { s with heap:=g1 }
 unfold Builtin.List.listExtendWith
 refine wpAny_bind (wpAny_typeOf hT1 ?_)
 have e1:Builtin.List.listSameRef (.ref s.heap.objs.size) (.ref a) = false:=by simp [Builtin.List.listSameRef,neA]
 have e2:(Value.type "set" == Value.type "list") = false:=by decide
 have e3:(Value.type "set" == Value.type "tuple") = false:=by decide
 simp only [e1,e2,e3,Bool.or_false,Bool.false_eq_true,if_false]
 refine wpAny_bind (setIterG (s:={ s with heap:=g1 }) o1 ok ?_)
 generalize hg2:g1.push { cls:=.type "set_iterator",data:=.fields #[.int 0 0,.int 0 0,.ref a,.int xs.length 0,.int ep 0] } = g2
 have k2:∀ b o,g1.get? b = some o→g2.get? b = some o:=fun b o e => by rw [← hg2]; exact Heap.get?_push_of_some _ e
 have i2:IsSetIt g2 g1.objs.size a 0 0 xs.length ep:=by rw [← hg2]; exact Heap.get?_push_size _ rfl
 have z2:g2.objs.size = g1.objs.size + 1:=by rw [← hg2,Heap.size_push]
 have o2:=k2 _ _ o1
 refine wpAny_bind (wpAny_holding (hintT (s:={ s with heap:=g2 }) ⟨_,o2,rfl⟩ ?_))
 show wpAny _ A.in1 (rule "list.extend.makes-room" >>= fun _ => Builtin.List.listTouch (.ref s.heap.objs.size) >>= fun _ => again (.builtin "list.extend.loop" ⟨[.ref s.heap.objs.size,.ref g1.objs.size,.ref s.heap.objs.size],[]⟩)) _ _ { s with heap:=g2 }
 refine wpAny_bind (wpAny_rule ?_)
 have l2:=k2 _ _ l1
 refine wpAny_bind ?_
 show wpAny _ A.in1 (updateSeq s.heap.objs.size (·.push .none) >>= fun _ => updateSeq s.heap.objs.size (·.pop)) _ _ { s with heap:=g2 }
 refine wpAny_bind (wpAny_updateSeq l2 rfl ?_)
 have l3:=Heap.get?_update_self (Obj.mapSeq (·.push Value.none)) l2 rfl
 refine wpAny_updateSeq l3 rfl ?_
 have l4:=Heap.get?_update_self (Obj.mapSeq (·.pop)) l3 rfl
 have k4:∀ b o,b ≠ s.heap.objs.size→g2.get? b = some o→((g2.update s.heap.objs.size (Obj.mapSeq (·.push Value.none))).update s.heap.objs.size (Obj.mapSeq (·.pop))).get? b = some o :=
  fun b o hb e => (Heap.get?_update_other _ _ (Ne.symm hb)).trans ((Heap.get?_update_other _ _ (Ne.symm hb)).trans e)
 have z4:((g2.update s.heap.objs.size (Obj.mapSeq (·.push Value.none))).update s.heap.objs.size (Obj.mapSeq (·.pop))).objs.size = s.heap.objs.size + 2:=by rw [Heap.size_update,Heap.size_update,z2,z1]
 generalize (g2.update s.heap.objs.size (Obj.mapSeq (·.push Value.none))).update s.heap.objs.size (Obj.mapSeq (·.pop)) = g4 at l4 k4 z4
 have neI:a ≠ g1.objs.size:=by rw [z1]; exact Nat.ne_of_lt (Nat.lt_succ_of_lt la)
 have neS:s.heap.objs.size ∉ [g1.objs.size,a]:=by
  rw [z1]; intro hm
  rcases List.mem_cons.mp hm with e | e
  ·exact absurd e (Nat.ne_of_lt (Nat.lt_succ_self _))
  ·exact neA (List.mem_singleton.mp e)
 have hh2:A.in1.handled = none:=by simp [hh]
 have i4:IsSetIt g4 g1.objs.size a (nslot w pl 0) 0 xs.length ep:=by
  have:=k4 _ _ (by rw [z1]; exact Nat.ne_of_gt (Nat.lt_succ_self _)) i2
  have e:nslot w pl 0 = 0:=by unfold nslot slot; split <;> rfl
  rw [e]; exact this
 refine wpAny_pure ⟨plainId_quiet PySem.F.plain_extend_loop _,codeAny_extend_loopS ((walkG (prog:=prog) (w:=w) hh2 g1.objs.size a neI (ep:=ep) (moves:=moves) ok).toS) (by rw [sizeLine_eq]; omega) s.heap.objs.size neS _ xs.length 0 { s with heap:=g4 } _ _ rfl (Nat.zero_le _)
  ⟨i4,k4 _ _ neA.symm o2⟩ l4 (ItemsOf.nil _) fun s' acc' c' hm hS' hacc => ?_⟩
 show wpAny _ A (load s.heap.objs.size >>= _) _ _ s'
 refine wpAny_bind (wpAny_load hS' ?_)
 have eacc:acc'.toList = ordG hf w a xs ep:=by
  refine List.ext_getElem? fun j => ?_
  rw [Array.getElem?_toList]
  by_cases hj:j < acc'.size
  ·rw [Array.getElem?_eq_getElem hj]
   exact (hacc.2 j acc'[j] (Array.getElem?_eq_getElem hj)).symm
  ·rw [Array.getElem?_eq_none (by omega),List.getElem?_eq_none (by rw [ordG_len,← hacc.1]; omega)]
 obtain ⟨h',g',d',tk',os'⟩:=s'
 have eg:g' = s.gens:=hm.gens
 have ed:d' = s.drawn:=hm.drawn
 have eo:os' = s.os:=hm.os
 subst eg; subst ed; subst eo
 refine wpAny_pure ?_
 show Q acc'.toList _
 rw [eacc]
 have kk:∀ b o,s.heap.get? b = some o→h'.get? b = some o:=fun b o e => by
  have hb:=Heap.lt_size e
  refine hm.heap b o (fun hmm => ?_) (k4 b o (Nat.ne_of_lt hb) (k2 _ _ (k1 _ _ e)))
  rcases List.mem_cons.mp hmm with z | z
  ·exact Nat.ne_of_lt hb z
  ·rw [z1] at z
   exact Nat.ne_of_lt (Nat.lt_succ_of_lt hb) (List.mem_singleton.mp z)
 exact h h' tk' kk (Nat.le_of_lt (Heap.lt_size hS'))
end
end Gs
namespace Gs
open PySem PyProof.Rows Stb
section
variable {prog:Program} {w:World}
noncomputable def kkT (prog:Program) (w:World):Kk prog w (List Int) where
 hs:=hT
 is:=fun h k a => KAt prog w h k a
 mono:=fun x e => x.at fun o => e _ o
 tup:=fun ⟨o,_,_,ho,hc,_⟩ => ⟨o,ho,hc⟩
 quiet:=fun hk h => wpAny_eqIsQuiet_tuple hk h
 noClass:=fun hk h => wp_noClass hk h
 byValue:=fun hk h => wp_byValue hk h
 eqb:=fun hu hx hy h => wpAny_eqBool_tuple (Nat.lt_of_succ_lt hu) hx hy h
 hash:=fun hu hk h => wpAny_pyHash_tuple (Nat.lt_of_succ_lt hu) hk (h _)
inductive P2 (R:Addr→List Int→Prop):List Addr→List (List Int)→Prop
 | nil:P2 R [] []
 | cons {a:Addr} {k:List Int} {as:List Addr} {ks:List (List Int)}:R a k→P2 R as ks→P2 R (a :: as) (k :: ks)
theorem P2.imp {R S:Addr→List Int→Prop} {as:List Addr} {ks:List (List Int)} (h:P2 R as ks) (f:∀ a k,R a k→S a k):P2 S as ks:=by
 induction h with
 | nil => exact .nil
 | cons r _ ih => exact .cons (f _ _ r) ih
theorem P2.len {R:Addr→List Int→Prop} {as:List Addr} {ks:List (List Int)} (h:P2 R as ks):as.length = ks.length:=by
 induction h with
 | nil => rfl
 | cons _ _ ih => rw [List.length_cons,List.length_cons,ih]
theorem P2.inj {R S:Addr→List Int→Prop} {as:List Addr} {ks ls:List (List Int)} (f:∀ a k l,R a k→S a l→k = l) (h:P2 R as ks) (g:P2 S as ls):ks = ls:=by
 induction h generalizing ls with
 | nil => cases g; rfl
 | cons r _ ih => cases g with | cons r' t' => rw [f _ _ _ r r',ih t']
noncomputable def IsN (prog:Program) (w:World) (h:Heap) (ks:List (List Int)) (a:Addr):Prop:=∃ o items n bs,h.get? a = some o∧o.cls = .type "tuple"∧o.data = .seq items n∧items.toList = (bs:List Addr).map Value.ref∧P2 (fun b k => KAt prog w h k b) bs ks
noncomputable def hN (ks:List (List Int)):Int:=reduceHash (Builtin.Tuple.tupleHashOf (ks.map hT))
theorem IsN.typeIs {s:Shared} {ks:List (List Int)} {a:Addr} (x:IsN prog w s.heap ks a):s.TypeIs (.ref a) "tuple":=let ⟨o,_,_,_,ho,hc,_⟩:=x; ⟨o,ho,hc⟩
theorem IsN.inj {h:Heap} {a:Addr} {x y:List (List Int)} (hx:IsN prog w h x a) (hy:IsN prog w h y a):x = y:=by
 obtain ⟨o,items,n,bs,ho,_,hd,hi,k1⟩:=hx
 obtain ⟨o',items',n',bs',ho',_,hd',hi',k1'⟩:=hy
 obtain rfl:o = o':=Option.some.inj (ho.symm.trans ho')
 rw [hd] at hd'
 injection hd' with h1 _
 subst h1
 rw [hi] at hi'
 have e:bs = bs':=by
  have inj:∀ l1 l2:List Addr,l1.map Value.ref = l2.map Value.ref→l1 = l2:=by
   intro l1
   induction l1 with
   | nil => intro l2 e; cases l2 with | nil => rfl | cons _ _ => cases e
   | cons b l1 ih =>
    intro l2 e
    cases l2 with
    | nil => cases e
    | cons c l2 => simp only [List.map_cons,List.cons.injEq,Value.ref.injEq] at e; rw [e.1,ih l2 e.2]
  exact inj _ _ hi'
 subst e
 exact P2.inj (fun a k l r r' => r.inj r') k1 k1'
theorem refs_mem {bs:List Addr} {v:Value} (h:v ∈ bs.map Value.ref):∃ b ∈ bs,v = .ref b:=by
 obtain ⟨b,hb,e⟩:=List.mem_map.mp h
 exact ⟨b,hb,e.symm⟩
theorem P2.mem {R:Addr→List Int→Prop} {as:List Addr} {ks:List (List Int)} (h:P2 R as ks) {a:Addr} (ha:a ∈ as):∃ k,R a k:=by
 induction h with
 | nil => cases ha
 | cons r _ ih =>
  rcases List.mem_cons.mp ha with rfl | h
  ·exact ⟨_,r⟩
  ·exact ih h
variable {A:Around} {E:Value→Shared→Prop} {s:Shared}
theorem noClass7 {k:List Int} {a:Addr} {Q:Bool→Shared→Prop} (hk:KAt prog w s.heap k a) (h:Q false s):wpAny (model prog w) A (ofAClassStatement 7 (.ref a)) Q E s:=by
 have hT:=hk.typeIs
 obtain ⟨o,items,n,ho,_,hd,hi⟩:=hk
 unfold ofAClassStatement
 refine wpAny_bind (wpAny_typeOf hT ?_)
 dsimp only
 simp only [beq_self_eq_true,↓reduceIte]
 refine wpAny_bind (wpAny_pure ?_)
 simp only [Bool.not_true,Bool.false_eq_true,↓reduceIte]
 refine wpAny_bind (wpAny_seqItems ho hd ?_)
 refine wpAny_bind ?_
 rw [← Array.forIn_toList]
 refine wpAny_forIn_list _ (fun rest r s' => r.1 = none∧s' = s∧∀ v ∈ rest,∃ i t,v = Value.int i t) _ ?_ ?_ _ _ ⟨rfl,rfl,KAt.ints (h:=s.heap) hi⟩
 ·rintro v rest r s' ⟨hr,rfl,hall⟩
  obtain ⟨i,t,rfl⟩:=hall v List.mem_cons_self
  refine wpAny_bind ?_
  unfold ofAClassStatement
  refine wpAny_pure ?_
  simp only [Bool.false_eq_true,↓reduceIte]
  exact wpAny_pure ⟨rfl,rfl,fun u hu' => hall u (List.mem_cons_of_mem _ hu')⟩
 ·rintro ⟨r1,r2⟩ s' ⟨hr,rfl,_⟩
  simp only at hr
  subst hr
  exact wpAny_pure h
theorem noClassN {ks:List (List Int)} {a:Addr} {Q:Bool→Shared→Prop} (hk:IsN prog w s.heap ks a) (h:Q false s):wpAny (model prog w) A (ofAClassStatement 8 (.ref a)) Q E s:=by
 have hT:=hk.typeIs
 obtain ⟨o,items,n,bs,ho,_,hd,hi,hP⟩:=hk
 unfold ofAClassStatement
 refine wpAny_bind (wpAny_typeOf hT ?_)
 dsimp only
 simp only [beq_self_eq_true,↓reduceIte]
 refine wpAny_bind (wpAny_pure ?_)
 simp only [Bool.not_true,Bool.false_eq_true,↓reduceIte]
 refine wpAny_bind (wpAny_seqItems ho hd ?_)
 refine wpAny_bind ?_
 rw [← Array.forIn_toList]
 refine wpAny_forIn_list _ (fun rest r s' => r.1 = none∧s' = s∧∀ v ∈ rest,∃ b ∈ bs,v = Value.ref b) _ ?_ ?_ _ _ ⟨rfl,rfl,fun v hv => refs_mem (by rw [hi] at hv; exact hv)⟩
 ·rintro v rest r s' ⟨hr,rfl,hall⟩
  obtain ⟨b,hb,rfl⟩:=hall v List.mem_cons_self
  obtain ⟨k,hkb⟩:=hP.mem hb
  refine wpAny_bind (noClass7 hkb ?_)
  simp only [Bool.false_eq_true,↓reduceIte]
  exact wpAny_pure ⟨rfl,rfl,fun u hu' => hall u (List.mem_cons_of_mem _ hu')⟩
 ·rintro ⟨r1,r2⟩ s' ⟨hr,rfl,_⟩
  simp only at hr
  subst hr
  exact wpAny_pure h
theorem byValue7 {k:List Int} {a:Addr} {Q:Bool→Shared→Prop} (hk:KAt prog w s.heap k a) (h:Q true s):wpAny (model prog w) A (hashByValue 7 (.ref a)) Q E s:=by
 have hT:=hk.typeIs
 obtain ⟨o,items,n,ho,_,hd,hi⟩:=hk
 unfold hashByValue
 refine wpAny_bind (wpAny_specialOf hT F.slot_tuple_hash.lookup ?_)
 show wpAny _ _ (seqItems? (.ref a) >>= _) _ _ s
 refine wpAny_bind (wpAny_seqItems ho hd ?_)
 refine wpAny_bind ?_
 show wpAny _ _ (forIn items _ _) _ _ s
 rw [← Array.forIn_toList]
 refine wpAny_forIn_list _ (fun rest r s' => r.1 = none∧s' = s∧∀ v ∈ rest,∃ i t,v = Value.int i t) _ ?_ ?_ _ _ ⟨rfl,rfl,KAt.ints (h:=s.heap) hi⟩
 ·rintro v rest r s' ⟨hr,rfl,hall⟩
  obtain ⟨i,t,rfl⟩:=hall v List.mem_cons_self
  refine wpAny_bind ?_
  unfold hashByValue
  refine wpAny_pure ?_
  simp only [Bool.not_true,Bool.false_eq_true,↓reduceIte]
  exact wpAny_pure ⟨rfl,rfl,fun u hu' => hall u (List.mem_cons_of_mem _ hu')⟩
 ·rintro ⟨r1,r2⟩ s' ⟨hr,rfl,_⟩
  simp only at hr
  subst hr
  exact wpAny_pure h
theorem byValueN {ks:List (List Int)} {a:Addr} {Q:Bool→Shared→Prop} (hk:IsN prog w s.heap ks a) (h:Q true s):wpAny (model prog w) A (hashByValue 8 (.ref a)) Q E s:=by
 have hT:=hk.typeIs
 obtain ⟨o,items,n,bs,ho,_,hd,hi,hP⟩:=hk
 unfold hashByValue
 refine wpAny_bind (wpAny_specialOf hT F.slot_tuple_hash.lookup ?_)
 show wpAny _ _ (seqItems? (.ref a) >>= _) _ _ s
 refine wpAny_bind (wpAny_seqItems ho hd ?_)
 refine wpAny_bind ?_
 show wpAny _ _ (forIn items _ _) _ _ s
 rw [← Array.forIn_toList]
 refine wpAny_forIn_list _ (fun rest r s' => r.1 = none∧s' = s∧∀ v ∈ rest,∃ b ∈ bs,v = Value.ref b) _ ?_ ?_ _ _ ⟨rfl,rfl,fun v hv => refs_mem (by rw [hi] at hv; exact hv)⟩
 ·rintro v rest r s' ⟨hr,rfl,hall⟩
  obtain ⟨b,hb,rfl⟩:=hall v List.mem_cons_self
  obtain ⟨k,hkb⟩:=hP.mem hb
  refine wpAny_bind (byValue7 hkb ?_)
  simp only [Bool.not_true,Bool.false_eq_true,↓reduceIte]
  exact wpAny_pure ⟨rfl,rfl,fun u hu' => hall u (List.mem_cons_of_mem _ hu')⟩
 ·rintro ⟨r1,r2⟩ s' ⟨hr,rfl,_⟩
  simp only at hr
  subst hr
  exact wpAny_pure h
theorem quiet7' {k:List Int} {a:Addr} {Q:Bool→Shared→Prop} (hk:KAt prog w s.heap k a) (h:Q true s):wpAny (model prog w) A (eqIsQuiet 7 (.ref a)) Q E s:=by
 have hT:=hk.typeIs
 obtain ⟨o,items,n,ho,_,hd,hi⟩:=hk
 unfold eqIsQuiet
 refine wpAny_bind (wpAny_specialOf hT F.slot_tuple_eq.lookup ?_)
 show wpAny _ _ (isInstance (.ref a) (.type "tuple") >>= _) _ _ s
 refine wpAny_bind (wpAny_isInstance hT isSubtype_tuple_tuple ?_)
 simp only [Bool.not_true,Bool.false_eq_true,if_false]
 refine wpAny_bind (wpAny_seqItems ho hd ?_)
 refine wpAny_bind ?_
 show wpAny _ _ (forIn items _ _) _ _ s
 rw [← Array.forIn_toList]
 refine wpAny_forIn_list _ (fun rest r s' => r.1 = none∧s' = s∧∀ v ∈ rest,carriedByValue v = true) _ ?_ ?_ _ _ ⟨rfl,rfl,hi.byValue⟩
 ·rintro v rest r s' ⟨hr,rfl,hall⟩
  rw [eqIsQuiet_byValue _ (hall v List.mem_cons_self)]
  refine wpAny_bind (wpAny_pure ?_)
  simp only [Bool.not_true,Bool.false_eq_true,if_false]
  exact wpAny_pure ⟨rfl,rfl,fun u hu' => hall u (List.mem_cons_of_mem _ hu')⟩
 ·rintro ⟨r1,r2⟩ s' ⟨hr,rfl,_⟩
  simp only at hr
  subst hr
  exact wpAny_pure h
theorem quietN {ks:List (List Int)} {a:Addr} {Q:Bool→Shared→Prop} (hk:IsN prog w s.heap ks a) (h:Q true s):wpAny (model prog w) A (eqIsQuiet 8 (.ref a)) Q E s:=by
 have hT:=hk.typeIs
 obtain ⟨o,items,n,bs,ho,_,hd,hi,hP⟩:=hk
 unfold eqIsQuiet
 refine wpAny_bind (wpAny_specialOf hT F.slot_tuple_eq.lookup ?_)
 show wpAny _ _ (isInstance (.ref a) (.type "tuple") >>= _) _ _ s
 refine wpAny_bind (wpAny_isInstance hT isSubtype_tuple_tuple ?_)
 simp only [Bool.not_true,Bool.false_eq_true,if_false]
 refine wpAny_bind (wpAny_seqItems ho hd ?_)
 refine wpAny_bind ?_
 show wpAny _ _ (forIn items _ _) _ _ s
 rw [← Array.forIn_toList,hi]
 refine wpAny_forIn_list _ (fun rest r s' => r.1 = none∧s' = s∧∀ v ∈ rest,∃ b ∈ bs,v = Value.ref b) _ ?_ ?_ _ _ ⟨rfl,rfl,fun v hv => refs_mem hv⟩
 ·rintro v rest r s' ⟨hr,rfl,hall⟩
  obtain ⟨b,hb,rfl⟩:=hall v List.mem_cons_self
  obtain ⟨k,hkb⟩:=hP.mem hb
  refine wpAny_bind (quiet7' hkb ?_)
  simp only [Bool.not_true,Bool.false_eq_true,if_false]
  exact wpAny_pure ⟨rfl,rfl,fun u hu' => hall u (List.mem_cons_of_mem _ hu')⟩
 ·rintro ⟨r1,r2⟩ s' ⟨hr,rfl,_⟩
  simp only at hr
  subst hr
  exact wpAny_pure h
theorem hashN {ks:List (List Int)} {a:Addr} {Q:Int→Shared→Prop} (hu:A.units + 1 < cLine) (hk:IsN prog w s.heap ks a) (h:∀ n,Q (hN ks) { s with toks:=s.toks + n }):wpAny (model prog w) A (pyHash (.ref a)) Q E s:=by
 have hT:=hk.typeIs
 obtain ⟨o,items,n,bs,ho,_,hd,hi,hP⟩:=hk
 have hu0:A.units < cLine:=Nat.lt_of_succ_lt hu
 unfold pyHash
 first | unfold pyHashByItsType | skip
 first | refine wpAny_bind (wpAny_cRoomFor_or (.inr hu0) ?_) | skip
 refine wpAny_bind (wpAny_specialOf hT F.slot_tuple_hash.lookup ?_)
 show wpAny _ _ (if (some (Value.builtin "tuple.__hash__") == some Value.none) = true then _ else _) Q E s
 rw [if_neg (by rw [beq_builtin_none]; exact Bool.false_ne_true)]
 refine wpAny_bind (wpAny_specialOf hT F.slot_tuple_hash.lookup ?_)
 show wpAny _ _ (callSpecialIfBoundUnlessNone? (.ref a) "__hash__" _ >>= _) Q E s
 refine wpAny_bind (wpAny_callSpecialIfBoundUnlessNone?_slot hT F.slot_tuple_hash (wpAny_call_entry F.slot_tuple_hash hT F.entry_tuple_hash ?_ (F.args_tuple_hash_1 _)))
 show wpAny _ _ (Builtin.Tuple.tupleItemsOf (.ref a) >>= _) _ _ s
 refine wpAny_bind (wpAny_tupleItemsOf ho hd ?_)
 refine wpAny_bind ?_
 rw [← Array.forIn_toList,hi]
 refine wpAny_forIn_list _
  (fun rest (g:Array Int) s' => ∃ bs' ks' pre n,rest = (bs':List Addr).map Value.ref∧P2 (fun b k => KAt prog w s.heap k b) bs' ks'∧pre ++ ks' = ks∧g.toList = pre.map Stb.hT∧s' = { s with toks:=s.toks + n })
  _ ?_ ?_ _ _ ⟨bs,ks,[],0,rfl,hP,rfl,rfl,rfl⟩
 ·rintro x rest g s' ⟨bs',ks',pre,n,hr,hP',hpre,hg,rfl⟩
  cases hP' with
  | nil => cases hr
  | @cons b k bs' ks' r t =>
   simp only [List.map_cons,List.cons.injEq] at hr
   obtain ⟨rfl,rfl⟩:=hr
   refine wpAny_bind (wpAny_pyHash_tuple (s:={ s with toks:=s.toks + n }) (A:=A.in1) hu r ?_)
   have nxt:∃ bs'' ks'' pre' n',bs'.map Value.ref = (bs'':List Addr).map Value.ref∧P2 (fun b k => KAt prog w s.heap k b) bs'' ks''∧pre' ++ ks'' = ks∧(g.push (Stb.hT k)).toList = pre'.map Stb.hT∧({ s with toks:=s.toks + n + (k.length + 1) }:Shared) = { s with toks:=s.toks + n' } :=
    ⟨bs',ks',pre ++ [k],n + (k.length + 1),rfl,t,by rw [List.append_assoc]; exact hpre,by rw [Array.toList_push,hg,List.map_append]; rfl,by rw [Nat.add_assoc]⟩
   first
    | exact wpAny_pure nxt
    | exact wpAny_bind (wpAny_pure (wpAny_pure nxt))
 ·rintro g s' ⟨bs',ks',pre,n,hr,hP',hpre,hg,rfl⟩
  have e:ks' = []:=by
   cases hP' with
   | nil => rfl
   | cons _ _ => cases hr
  subst e
  rw [List.append_nil] at hpre
  subst hpre
  show wpAny _ _ (retInt (Builtin.Tuple.tupleHashOf g.toList)) _ _ _
  rw [hg]
  refine wpAny_ret_mkInt ?_
  have h:=h (n + 1)
  unfold hN reduceHash at h
  generalize Builtin.Tuple.tupleHashOf (pre.map Stb.hT) = hh at h ⊢
  show wpAny _ _ (if (decide (-(2:Int) ^ 63 ≤ hh) && decide (hh < 2 ^ 63)) = true then _ else _) Q E _
  by_cases hr:(decide (-(2:Int) ^ 63 ≤ hh) && decide (hh < 2 ^ 63)) = true
  ·rw [if_pos hr]
   rw [if_pos hr] at h
   exact wpAny_pure h
  ·rw [if_neg hr]
   rw [if_neg hr] at h
   exact wpAny_bind (wpAny_rule (wpAny_pure h))
theorem eq_treeN {x y:List (List Int)} {a b:Addr} {P:Fin→Shared→Prop} (hu:A.units < cLine) (hx:IsN prog w s.heap x a) (hy:IsN prog w s.heap y b) (h:P (.done (.ret (.bool (decide (x = y))))) s) :
  wpAny (model prog w) A (Builtin.«tuple.__eq__» ⟨[.ref a,.ref b],[]⟩) P E s:=by
 have hTb:=hy.typeIs
 obtain ⟨oa,xs,na,bs,hoa,_,hda,hia,kx⟩:=hx
 obtain ⟨ob,ys,nb,cs,hob,_,hdb,hib,ky⟩:=hy
 show wpAny _ _ (isInstance (.ref b) (.type "tuple") >>= _) _ _ s
 refine wpAny_bind (wpAny_isInstance hTb isSubtype_tuple_tuple ?_)
 simp only [Bool.not_true,Bool.false_eq_true,if_false]
 refine wpAny_bind (wpAny_tupleItemsOf hoa hda ?_)
 refine wpAny_bind (wpAny_tupleItemsOf hob hdb ?_)
 refine wpAny_bind ?_
 rw [hia,hib]
 refine wpAny_forIn_list _
  (fun rest r s' => r.1 = none∧s' = s∧∃ bs' cs' ks ls pre,rest = ((bs':List Addr).map Value.ref).zip ((cs':List Addr).map Value.ref)∧P2 (fun b k => KAt prog w s.heap k b) bs' ks∧P2 (fun b k => KAt prog w s.heap k b) cs' ls∧x = pre ++ ks∧y = pre ++ ls)
  _ ?_ ?_ _ _ ⟨rfl,rfl,bs,cs,x,y,[],rfl,kx,ky,rfl,rfl⟩
 ·rintro ⟨u,v⟩ rest r s' ⟨hr,rfl,bs',cs',ks,ls,pre,hz,k1,k2,ex,ey⟩
  cases k1 with
  | nil => cases hz
  | @cons b1 k bs' ks r1 t1 =>
   cases k2 with
   | nil => cases hz
   | @cons c1 l cs' ls r2 t2 =>
    simp only [List.map_cons,List.zip_cons_cons,List.cons.injEq,Prod.mk.injEq] at hz
    obtain ⟨⟨rfl,rfl⟩,rfl⟩:=hz
    refine wpAny_bind (wpAny_eqBool_tuple hu r1 r2 ?_)
    by_cases hk:k = l
    ·rw [decide_eq_true hk]
     simp only [Bool.not_true,Bool.false_eq_true,if_false]
     exact wpAny_pure ⟨rfl,rfl,bs',cs',ks,ls,pre ++ [k],rfl,t1,t2,by rw [ex,List.append_assoc]; rfl,by rw [ey,List.append_assoc,hk]; rfl⟩
    ·rw [decide_eq_false hk]
     simp only [Bool.not_false,if_true]
     have hf':decide (x = y) = false:=decide_eq_false fun e => hk (by
      rw [ex,ey] at e
      exact (List.cons.inj (List.append_cancel_left e)).1)
     rw [hf'] at h
     exact wpAny_bind (wpAny_pure (wpAny_pure (wpAny_pure h)))
 ·rintro ⟨r1,r2⟩ s' ⟨hr,rfl,bs',cs',ks,ls,pre,hz,k1,k2,ex,ey⟩
  simp only at hr
  subst hr
  refine wpAny_pure ?_
  have z1:xs.size = x.length:=by have:=congrArg List.length hia; rw [List.length_map,kx.len] at this; simpa using this
  have z2:ys.size = y.length:=by have:=congrArg List.length hib; rw [List.length_map,ky.len] at this; simpa using this
  show P (.done (.ret (.bool (xs.size == ys.size)))) s'
  rw [z1,z2]
  have e:(x.length == y.length) = decide (x = y):=by
   rw [Bool.eq_iff_iff,beq_iff_eq,decide_eq_true_eq]
   refine ⟨fun e => ?_,fun e => by rw [e]⟩
   rw [ex,ey,List.length_append,List.length_append] at e
   have e':ks.length = ls.length:=by omega
   have:ks = [] ∨ ls = []:=by
    cases k1 with
    | nil => exact .inl rfl
    | cons _ _ => cases k2 with | nil => exact .inr rfl | cons _ _ => cases hz
   rcases this with rfl | rfl
   ·rw [ex,ey,List.eq_nil_of_length_eq_zero e'.symm]
   ·rw [ex,ey,List.eq_nil_of_length_eq_zero e']
  rw [e]
  exact h
theorem eqbN {x y:List (List Int)} {a b:Addr} {Q:Bool→Shared→Prop} (hu:A.units + 1 < cLine) (hx:IsN prog w s.heap x a) (hy:IsN prog w s.heap y b) (h:Q (decide (x = y)) s) :
  wpAny (model prog w) A (eqBool (.ref a) (.ref b)) Q E s:=by
 unfold eqBool
 try with_reducible refine wpAny_holding ?_
 show wpAny _ _ (if (Value.ref a == Value.ref b) = true then _ else _) Q E s
 by_cases hab:(Value.ref a == Value.ref b) = true
 ·rw [if_pos hab]
  have e:a = b:=by have:=eq_of_beq hab; injection this
  subst e
  obtain rfl:=IsN.inj hx hy
  exact wpAny_bind (wpAny_rule (wpAny_pure (by simpa using h)))
 ·rw [if_neg hab]
  exact wpAny_bind (wpAny_richCompare_same_room (op:=.Eq) hx.typeIs hy.typeIs F.slot_tuple_eq
   (wpAny_call_entry F.slot_tuple_eq hx.typeIs F.entry_tuple_eq (eq_treeN hu hx hy ⟨_,rfl,(fun e => nomatch e),wpAny_truthy_bool h⟩) (F.args_tuple_eq_2 _ _)) (Nat.lt_of_succ_lt hu))
end
noncomputable def kkN (prog:Program) (w:World):Kk prog w (List (List Int)) where
 hs:=hN
 is:=IsN prog w
 mono:=fun ⟨o,items,n,bs,ho,hc,hd,hi,k⟩ e => ⟨o,items,n,bs,e _ _ ho,hc,hd,hi,k.imp fun _ _ x => x.at fun o => e _ o⟩
 tup:=fun ⟨o,_,_,_,ho,hc,_⟩ => ⟨o,ho,hc⟩
 quiet:=fun hk h => quietN hk h
 noClass:=fun hk h => noClassN hk h
 byValue:=fun hk h => byValueN hk h
 eqb:=fun hu hx hy h => eqbN hu hx hy h
 hash:=fun hu hk h => hashN hu hk h
end Gs
namespace L2
open PySem PySem.Spec PyProof.Rows Srt Stb
section
variable {X:Cx}
theorem sortedP_gen {pins:List (Addr × Obj)} {s:Shared} {σ:St} {H:Hp} {Q:VK} {p:Addr} {zs:List (Addr × List (Int × Int))} (hu:X.A.units + 2 < cLine) (I:Inv X pins σ H s) (hz:∀ z ∈ zs,SqA H z.1 z.2∧z.2 ≠ []) (h64:zs.length < 64)
  (hcol:∀ Q':List Value→Shared→Prop,(∀ h1 tk,(∀ b o,s.heap.get? b = some o→h1.get? b = some o)→s.heap.objs.size ≤ h1.objs.size→Q' (zs.map fun z => Value.ref z.1) { s with heap:=h1,toks:=tk })→wpAny (model X.prog X.w) X.A.in1 (collect (.ref p)) Q' X.xe s)
  (q:∀ l zs',H l = none→SortedP zs zs'→Q (.ref l) (upd H l (.lst (zs'.map fun z => V.ref z.1)))):wpAny (model X.prog X.w) X.A (call (.builtin "sorted") [.ref p]) (EP X pins σ Q) X.xe s:=by
 have gd:∀ i,i < zs.length→(zs.map fun z => Value.ref z.1).getD i Value.none = .ref (zs.getD i (0,[])).1∧zs.getD i (0,[]) ∈ zs:=fun i hi => by
  constructor
  ·simp [hi]
  ·rw [show zs.getD i (0,[]) = zs[i] by simp [hi]]; exact List.getElem_mem _
 refine sorted_raw (κ:=tuples' false) (r:=fun i => rank (zs.map fun z => fl z.2) (fl (zs.getD i (0,[])).2)) (vs:=zs.map fun z => Value.ref z.1) (by rw [List.length_map]; exact h64) (fun Q' k => ?_) (fun h1 tk k1 h2 => ⟨fun Q2 q2 => ?_,fun i j C hi hj hC => ?_⟩) fun D h' tk c pp hD hp hu' o' k' => ?_
 ·exact hcol Q' k
 ·have I1:Inv X pins σ H { s with heap:=h1,toks:=tk }:=I.kept k1
  have key:∀ ys:List (Addr × List (Int × Int)),(∀ z ∈ ys,z ∈ zs)→∃ fs:List Value,PySem.W.KatTups h1 (ys.map fun z => Value.ref z.1) fs∧fs.length = ys.length∧∀ v ∈ fs,∃ a o,v = .ref a∧h1.get? a = some o∧o.cls = .type "tuple":=fun ys => by
   induction ys with
   | nil => intro _; exact ⟨[],trivial,rfl,fun v hv => by cases hv⟩
   | cons z ys ih =>
    intro hm
    obtain ⟨fs,g1,g2,g3⟩:=ih fun y hy => hm y (List.mem_cons_of_mem _ hy)
    obtain ⟨⟨ps,hz1,hP⟩,hne⟩:=hz z (hm z List.mem_cons_self)
    obtain ⟨cs0,cs1,ec⟩:=List.exists_cons_of_ne_nil hne
    rw [ec] at hP
    cases hP with
    | cons r0 t0 =>
     rename_i p0 ps0
     obtain ⟨_,it,rt,o,ho,hc,n,hd⟩:=(show ObjOk X.prog X.w H h1 z.1 (.tup _) from I1.hok _ _ hz1)
     obtain ⟨_,it2,rt2,o2,ho2,hc2,_⟩:=(show ObjOk X.prog X.w H h1 p0 (.tup _) from I1.hok _ _ r0)
     have ei:=refs_of rt
     subst ei
     exact ⟨.ref p0 :: fs,PySem.W.KatTups.cons ho hc hd (by simp) g1,by simp [g2],fun v hv => by
      rcases List.mem_cons.mp hv with e | e
      ·exact ⟨p0,o2,e,ho2,hc2⟩
      ·exact g3 v e⟩
  obtain ⟨fs,g1,g2,g3⟩:=key zs fun z hz => hz
  rw [List.length_map] at h2
  refine PySem.W.kat_kind (T:=.type "tuple") (s:={ s with heap:=h1,toks:=tk }) g1 (by omega) (fun v hv => ?_) rfl q2
  obtain ⟨a,o,rfl,ho,hc⟩:=g3 v hv
  have lk:PySem.W.Looks (model X.prog X.w) h1 (typeOf (.ref a)) o.cls:=(PySem.W.Looks.ld ho).andThen .now
  rw [hc] at lk
  exact lk
 ·rw [List.length_map] at hi hj
  obtain ⟨ei,mi⟩:=gd i hi
  obtain ⟨ej,mj⟩:=gd j hj
  show wpAny _ _ (keyLt' (tuples' false) ((zs.map fun z => Value.ref z.1).getD i Value.none) ((zs.map fun z => Value.ref z.1).getD j Value.none)) C (fun _ _ => False) _
  rw [ei,ej]
  have I1:Inv X pins σ H { s with heap:=h1,toks:=tk }:=I.kept k1
  obtain ⟨⟨ps,hz1,hP⟩,_⟩:=hz _ mi
  obtain ⟨⟨qs,hz2,hP2⟩,_⟩:=hz _ mj
  obtain ⟨_,it,rt,o,ho,hc,n,hd⟩:=(show ObjOk X.prog X.w H h1 _ (.tup _) from I1.hok _ _ hz1)
  obtain ⟨_,it2,rt2,o2,ho2,hc2,n2,hd2⟩:=(show ObjOk X.prog X.w H h1 _ (.tup _) from I1.hok _ _ hz2)
  have e1:=refs_of rt
  have e2:=refs_of rt2
  subst e1 e2
  rw [rank_lt (List.mem_map.mpr ⟨_,mi,rfl⟩) (List.mem_map.mpr ⟨_,mj,rfl⟩)] at hC
  refine PySem.W.kat_lt (s:={ s with heap:=h1,toks:=tk }) ho hd ho2 hd2 ?_
  rw [List.size_toArray,List.size_toArray,List.length_map,List.length_map]
  exact lexP_same I1 (show X.A.units + 1 + 1 < cLine by omega) 0 hP hP2 hC
 ·rw [List.length_map] at hp hu'
  have so:=out_gen (0,[]) (fun z:Addr × List (Int × Int) => fl z.2) hp hu'
  have eo:(pp.toList.map fun i => (zs.map fun z => Value.ref z.1).getD i Value.none) = (pp.toList.map fun i => zs.getD i (0,[])).map fun z => Value.ref z.1:=by
   rw [List.map_map]
   refine List.map_congr_left fun i hi => ?_
   have:i < zs.length:=by
    have:=(Array.perm_iff_toList_perm.mp hp).mem_iff.mp hi
    simpa using this
   exact (gd i this).1
  rw [eo] at o'
  have hlen:=so.1.length_eq
  have vf:∀ zs:List (Addr × List (Int × Int)),Vals (zs.map fun z => V.ref z.1) (zs.map fun z => Value.ref z.1):=fun zs => by
   induction zs with
   | nil => exact .nil
   | cons z zs ih => exact .cons rfl ih
  refine ⟨.ref D,_,I.laid (t':=tk) (o:=.lst ((pp.toList.map fun i => zs.getD i (0,[])).map fun z => V.ref z.1)) k' hD ⟨by rw [List.length_map,hlen,sizeLine_eq]; omega,_,c,vf _,o'⟩,rfl,q _ _ (I.hok.fresh hD) so⟩
end
noncomputable def setK {κ:Type} (hf:κ→Int) (w:World) (a:Addr) (xs:List (κ × Addr)):HO:=.ext fun h => Gs.IsStG hf h a xs (!byT w)
structure DedK {κ:Type} (zs:List (Addr × κ)) (xs:List (κ × Addr)):Prop where
 nd:(xs.map (·.1)).Nodup
 of:∀ x ∈ xs,(x.2,x.1) ∈ zs
 all:∀ z ∈ zs,z.2 ∈ xs.map (·.1)
theorem dedK_of {κ:Type} {zs:List (Addr × κ)} {xs:List (κ × Addr)} {d:κ} (hA:Gs.AccG (fun i => ((zs.getD i (0,d)).2,(zs.getD i (0,d)).1)) zs.length xs):DedK zs xs:=by
 have gd:∀ i (hi:i < zs.length),zs.getD i (0,d) = zs[i]:=fun i hi => by simp [hi]
 refine ⟨hA.nd,fun x hx => ?_,fun z hz => ?_⟩
 ·obtain ⟨j,hj,e⟩:=hA.of x hx
  rw [← e]
  show ((zs.getD j (0,d)).1,(zs.getD j (0,d)).2) ∈ zs
  rw [gd j hj]
  exact List.getElem_mem hj
 ·obtain ⟨j,hj,e⟩:=List.getElem_of_mem hz
  have:=hA.all j hj
  rw [gd j hj,e] at this
  exact this
section
variable {X:Cx} {κ:Type} [DecidableEq κ] {kk:Gs.Kk X.prog X.w κ} {Pz:Hp→Addr × κ→Prop}
theorem call_setLK (d:κ) (hc:X.calm = true) (hu:X.A.units + 8 < cLine) (lift:∀ {pins:List (Addr × Obj)} {σ:St} {H:Hp} {s:Shared} {z:Addr × κ},Inv X pins σ H s→Pz H z→kk.is s.heap z.2 z.1) :
  CallR X (.type "set") (fun as H Q => ∃ (p:Addr) (zs:List (Addr × κ)) (L:List κ),as = [.ref p]∧SqL X.K H p (zs.map fun z => V.ref z.1)∧(∀ z ∈ zs,Pz H z)∧L.length ≤ 17∧(∀ z ∈ zs,z.2 ∈ L)∧∀ l xs,H l = none→DedK zs xs→Q (.ref l) (upd H l (setK kk.hs X.w l xs))):=by
 intro pins s σ H as us Q I r h
 obtain ⟨p,zs,L,rfl,hq,hz,hL,hm,q⟩:=h
 obtain ⟨u,rfl,rx⟩:=vals1 r
 cases rx
 obtain ⟨its,rv,pl,_⟩:=I.list hq
 have hits:its = zs.map fun z => Value.ref z.1:=by
  have:=refs_of (as:=zs.map (·.1)) (us:=its) (by rw [List.map_map]; exact rv)
  rw [this,List.map_map]; rfl
 subst hits
 have sz:(zs.map fun z => Value.ref z.1).toArray.size = zs.length:=by simp
 have gd:∀ i (hi:i < zs.length),zs.getD i (0,d) = zs[i]:=fun i hi => by simp [hi]
 refine Gs.setG_list (kk:=kk) (val:=fun i => ((zs.getD i (0,d)).2,(zs.getD i (0,d)).1)) hu (I.ok.hd hc) pl.isList (fun i v e => ?_) (fun i hi => ?_) L hL (fun i hi => ?_) fun h' tk xs hS hA hk => ?_
 ·have e':(zs.map fun z => Value.ref z.1)[i]? = some v:=by simpa using e
  rw [List.getElem?_map] at e'
  cases z:zs[i]? with
  | none => rw [z] at e'; cases e'
  | some y =>
   rw [z] at e'; cases e'
   show Value.ref y.1 = Value.ref (zs.getD i (0,d)).1
   rw [List.getD_eq_getElem?_getD,z]; rfl
 ·rw [sz] at hi
  show kk.is s.heap (zs.getD i (0,d)).2 (zs.getD i (0,d)).1
  rw [gd i hi]
  exact lift I (hz _ (List.getElem_mem hi))
 ·rw [sz] at hi
  show (zs.getD i (0,d)).2 ∈ L
  rw [gd i hi]
  exact hm _ (List.getElem_mem hi)
 ·rw [sz] at hA
  obtain ⟨ep,mask,moves,pl',ho,_⟩:=id hS
  exact ⟨.ref s.heap.objs.size,_,I.laid (t':=tk) (fun b o q => hk b o (Heap.lt_size q) q) (Nat.le_refl _) (o:=setK kk.hs X.w _ xs) ⟨hS,⟨_,ho⟩,fun h1 h2 x e => x.at e⟩,rfl,q _ xs (I.hok.fresh (Nat.le_refl _)) (dedK_of hA)⟩
theorem call_setTK (d:κ) (hc:X.calm = true) (hu:X.A.units + 8 < cLine) (lift:∀ {pins:List (Addr × Obj)} {σ:St} {H:Hp} {s:Shared} {z:Addr × κ},Inv X pins σ H s→Pz H z→kk.is s.heap z.2 z.1) :
  CallR X (.type "set") (fun as H Q => ∃ (p:Addr) (zs:List (Addr × κ)) (L:List κ),as = [.ref p]∧SqT X.K H p (zs.map fun z => V.ref z.1)∧(∀ z ∈ zs,Pz H z)∧L.length ≤ 17∧(∀ z ∈ zs,z.2 ∈ L)∧∀ l xs,H l = none→DedK zs xs→Q (.ref l) (upd H l (setK kk.hs X.w l xs))):=by
 intro pins s σ H as us Q I r h
 obtain ⟨p,zs,L,rfl,hq,hz,hL,hm,q⟩:=h
 obtain ⟨u,rfl,rx⟩:=vals1 r
 cases rx
 obtain ⟨its,rv,pl,_⟩:=I.tuple hq
 have hits:its = zs.map fun z => Value.ref z.1:=by
  have:=refs_of (as:=zs.map (·.1)) (us:=its) (by rw [List.map_map]; exact rv)
  rw [this,List.map_map]; rfl
 subst hits
 have sz:(zs.map fun z => Value.ref z.1).toArray.size = zs.length:=by simp
 have gd:∀ i (hi:i < zs.length),zs.getD i (0,d) = zs[i]:=fun i hi => by simp [hi]
 refine Gs.setG_tup (kk:=kk) (val:=fun i => ((zs.getD i (0,d)).2,(zs.getD i (0,d)).1)) hu (I.ok.hd hc) pl (fun i v e => ?_) (fun i hi => ?_) L hL (fun i hi => ?_) fun h' tk xs hS hA hk => ?_
 ·have e':(zs.map fun z => Value.ref z.1)[i]? = some v:=by simpa using e
  rw [List.getElem?_map] at e'
  cases z:zs[i]? with
  | none => rw [z] at e'; cases e'
  | some y =>
   rw [z] at e'; cases e'
   show Value.ref y.1 = Value.ref (zs.getD i (0,d)).1
   rw [List.getD_eq_getElem?_getD,z]; rfl
 ·rw [sz] at hi
  show kk.is s.heap (zs.getD i (0,d)).2 (zs.getD i (0,d)).1
  rw [gd i hi]
  exact lift I (hz _ (List.getElem_mem hi))
 ·rw [sz] at hi
  show (zs.getD i (0,d)).2 ∈ L
  rw [gd i hi]
  exact hm _ (List.getElem_mem hi)
 ·rw [sz] at hA
  obtain ⟨ep,mask,moves,pl',ho,_⟩:=id hS
  exact ⟨.ref s.heap.objs.size,_,I.laid (t':=tk) (fun b o q => hk b o (Heap.lt_size q) q) (Nat.le_refl _) (o:=setK kk.hs X.w _ xs) ⟨hS,⟨_,ho⟩,fun h1 h2 x e => x.at e⟩,rfl,q _ xs (I.hok.fresh (Nat.le_refl _)) (dedK_of hA)⟩
theorem call_sortedKT {hf:List Int→Int} (hc:X.calm = true):CallR X (.builtin "sorted") (fun as H Q => ∃ (p:Addr) (xs:List (List Int × Addr)),as = [.ref p]∧H p = some (setK hf X.w p xs)∧(∀ x ∈ xs,H x.2 = some (.tup (x.1.map V.int))∧x.1 ≠ [])∧xs.length < 64 ∧
  ∀ l zs',H l = none→Sorted2 (xs.map fun x => (x.2,x.1)) zs'→Q (.ref l) (upd H l (.lst (zs'.map fun z => V.ref z.1)))):=by
 intro pins s σ H as us Q I r h
 obtain ⟨p,xs,rfl,hp,hx,h64,q⟩:=h
 obtain ⟨u,rfl,rx⟩:=vals1 r
 cases rx
 obtain ⟨⟨ep,mask,moves,pl,ho,ok⟩,_,_⟩:=(show ObjOk X.prog X.w H s.heap p (setK hf X.w p xs) from I.hok _ _ hp)
 have e0:(xs.map fun x => Value.ref x.2) = (xs.map fun x => (x.2,x.1)).map fun z:Addr × List Int => Value.ref z.1:=by rw [List.map_map]; rfl
 obtain ⟨zs,e1,p1⟩:=perm_lift (fun z:Addr × List Int => Value.ref z.1) (Gs.ordG_perm hf X.w p xs ep) _ e0
 have hlen:zs.length = xs.length:=by rw [p1.length_eq,List.length_map]
 refine sorted_gen (zs:=zs) I (fun z hz => ?_) (by omega) (fun Q' k => ?_) fun l zs' hl hs => q l zs' hl ⟨hs.1.trans p1,hs.2⟩
 ·obtain ⟨x,hx',e⟩:=List.mem_map.mp (p1.mem_iff.mp hz)
  rw [← e]; exact hx x hx'
 ·refine Gs.collectG (by simp [I.ok.hd hc]) ho ok (by omega) fun h1 tk k1 z1 => ?_
  rw [e1]; exact k h1 tk k1 z1
noncomputable def rowsP (cs:List (Int × Int)):List (List Int):=cs.map fun c => [c.1,c.2]
theorem call_sortedKN {hf:List (List Int)→Int} (hc:X.calm = true) (hu:X.A.units + 2 < cLine):CallR X (.builtin "sorted") (fun as H Q => ∃ (p:Addr) (ys:List (Addr × List (Int × Int))) ,as = [.ref p]∧H p = some (setK hf X.w p (ys.map fun y => (rowsP y.2,y.1)))∧(∀ y ∈ ys,SqA H y.1 y.2∧y.2 ≠ [])∧ys.length < 64 ∧
  ∀ l zs',H l = none→SortedP ys zs'→Q (.ref l) (upd H l (.lst (zs'.map fun z => V.ref z.1)))):=by
 intro pins s σ H as us Q I r h
 obtain ⟨p,ys,rfl,hp,hx,h64,q⟩:=h
 obtain ⟨u,rfl,rx⟩:=vals1 r
 cases rx
 obtain ⟨⟨ep,mask,moves,pl,ho,ok⟩,_,_⟩:=(show ObjOk X.prog X.w H s.heap p (setK hf X.w p (ys.map fun y => (rowsP y.2,y.1))) from I.hok _ _ hp)
 have e0:((ys.map fun y => (rowsP y.2,y.1)).map fun x => Value.ref x.2) = ys.map fun z => Value.ref z.1:=by rw [List.map_map]; rfl
 obtain ⟨zs,e1,p1⟩:=perm_lift (fun z:Addr × List (Int × Int) => Value.ref z.1) (Gs.ordG_perm hf X.w p (ys.map fun y => (rowsP y.2,y.1)) ep) _ e0
 have hlen:zs.length = ys.length:=p1.length_eq
 refine sortedP_gen (zs:=zs) hu I (fun z hz => hx z (p1.mem_iff.mp hz)) (by omega) (fun Q' k => ?_) fun l zs' hl hs => q l zs' hl ⟨hs.1.trans p1,hs.2⟩
 refine Gs.collectG (by simp [I.ok.hd hc]) ho ok (by rw [List.length_map]; omega) fun h1 tk k1 z1 => ?_
 rw [e1]; exact k h1 tk k1 z1
end
section
variable {X:Cx}
theorem lift_T {pins:List (Addr × Obj)} {σ:St} {H:Hp} {s:Shared} {z:Addr × List Int} (I:Inv X pins σ H s) (h:H z.1 = some (.tup (z.2.map V.int))):(Gs.kkT X.prog X.w).is s.heap z.2 z.1:=tup_KAt I h
theorem lift_N {pins:List (Addr × Obj)} {σ:St} {H:Hp} {s:Shared} {z:Addr × List (List Int)} (I:Inv X pins σ H s) (h:∃ cs,z.2 = rowsP cs∧SqA H z.1 cs):(Gs.kkN X.prog X.w).is s.heap z.2 z.1:=by
 obtain ⟨a,ks⟩:=z
 obtain ⟨cs,rfl,ps,ht,hP⟩:=h
 obtain ⟨hsz,its,rv,o,ho,hc,n,hd⟩:=(show ObjOk X.prog X.w H s.heap a (.tup _) from I.hok _ _ ht)
 refine ⟨o,its.toArray,n,ps,ho,hc,hd,refs_of rv,?_⟩
 clear rv hd ht ho hc hsz
 induction hP with
 | nil => exact .nil
 | cons r t ih => exact .cons (tup_KAt I (ks:=[_,_]) r) ih
end
end L2
namespace L2
open PySem PySem.Spec PyProof.Rows
theorem comp_filtV {K:PySem.W.Frag} {a l:Addr} {xs:List V} {tt:TT} {H0:Hp} {rest:St} {Q:St→Hp→Prop} (p:V→Bool) (ha:H0 a = some (.tup xs)) (hl:H0 l = none) (hz:xs.length ≤ 1000)
  (test:∀ x H' Q',x ∈ xs→Same H0 H'→(∀ H2,Same H' H2→Q' (p x) H2)→tt (some x :: rest) H' Q') (hQ:∀ σ H',Same H0 H'→H' l = some (.lst (xs.filter p))→Q σ H') :
  tForJ (Itt K a) (gName 0) (tBodyC tt (tEmit l (tVar 0))) (eC Q) (none :: rest) (upd H0 l (.lst [])):=by
 have s0:Same H0 (upd H0 l (.lst [])):=same_upd hl
 refine for_tup (K:=K) (a:=a) (xs:=xs) (fun i σ H' => (∃ o,σ = o :: rest)∧Same H0 H'∧H' l = some (.lst ((xs.take i).filter p))) ⟨⟨_,rfl⟩,s0,by rw [upd_same]; rfl⟩ (fun i σ H' _ h => SqT.of (h.2.1 _ _ ha)) ?_ ?_
 ·rintro i x σ H' hx ⟨⟨o,rfl⟩,hs,hl'⟩
  show tBodyC tt (tEmit l (tVar 0)) _ (some x :: rest) H'
  have et:(xs.take (i + 1)).filter p = (xs.take i).filter p ++ (if p x = true then [x] else []):=by
   rw [List.take_succ,hx,List.filter_append]
   congr 1
   cases h:p x <;> simp [h]
  refine test x H' _ (List.mem_of_getElem? hx) hs fun H2 h2 => ?_
  refine iteB (fun hp => ?_) fun hp => ?_
  ·refine ⟨_,rfl,_,h2 _ _ hl',?_,⟨_,rfl⟩,fun b u e => ?_,?_⟩
   ·have:=List.length_filter_le p (xs.take i)
    rw [List.length_take] at this
    exact small1000 (by omega)
   ·rw [upd_ne (ne_of_none e hl)]; exact h2 _ _ (hs _ _ e)
   ·rw [upd_same,et,if_pos hp]
  ·refine ⟨⟨_,rfl⟩,hs.trans h2,?_⟩
   rw [et,if_neg (by rw [hp]; decide),List.append_nil]; exact h2 _ _ hl'
 ·rintro σ H' ⟨_,hs,hl'⟩
  rw [List.take_of_length_le (Nat.le_refl _)] at hl'
  exact hQ σ H' hs hl'
end L2
namespace M43
open PySem L2 PyProof.Rows Grd Wlk Cyc Srt Stb
noncomputable abbrev sGood:Stmt:=top 51
theorem upL_rows (cs:List Pl):upL (rowsP cs) = upP cs:=by
 unfold upL upP rowsP
 rw [decide_eq_decide,List.pairwise_map]
noncomputable def zip2:List Addr→List Pl→List (Addr × List Int)
 | p :: ps,c :: cs => (p,[c.1,c.2]) :: zip2 ps cs
 | _,_ => []
theorem zip2_is {H:Hp}:∀ {ps:List Addr} {cs:List Pl},PlAt H ps cs→((zip2 ps cs).map (·.1) = ps)∧(zip2 ps cs).map (·.2) = rowsP cs∧(∀ z ∈ zip2 ps cs,H z.1 = some (.tup (z.2.map V.int))∧z.2.length = 2)
 | _,_,.nil => ⟨rfl,rfl,fun z hz => by cases hz⟩
 | p :: ps,c :: cs,.cons r t => by
  obtain ⟨h1,h2,h3⟩:=zip2_is t
  refine ⟨by show p :: (zip2 ps cs).map (·.1) = _; rw [h1],by show [c.1,c.2] :: (zip2 ps cs).map (·.2) = _; rw [h2]; rfl,fun z hz => ?_⟩
  rcases List.mem_cons.mp hz with e | e
  ·rw [e]; exact ⟨r,rfl⟩
  ·exact h3 z e
section
variable {P:Program} {w:World} {K:PySem.W.Frag} {mg:Str→Option Value} {base:Heap}
noncomputable abbrev nGd:List Str:=["_law_mead_here","_law_thing_here","_law_place"]
theorem scGood:FnScope nGd ["_law_mead_here","_law_thing_here"] (defScope sGood):=⟨rfl,rfl,rfl,by decide +kernel,rfl,by decide +kernel,by decide +kernel⟩
theorem boot_set:bootBuiltins "set" = some (.type "set"):=by decide +kernel
theorem ok_good {f g1:Addr} {fd d1:FuncData} (F:Fun K "_law_good" "_law_good" sGood f fd) (T:Txt mg) (T2:Txt2 mg) (a1:At P w K mg base CX0 1 "_law_cells" g1 d1 ["_law_mead_here"] (spGrid pos)):FnOk P w K mg base CX0 2 f fd ["_law_mead_here","_law_thing_here"] spIsLand:=by
  refine F.ok scGood (fun vs H Q E h => ?_) (fun cdv A outer s H vs Q E hr h => ?_)
  · obtain ⟨a,g,w',v,rfl,_⟩:=h; rfl
  · obtain ⟨a,g,w',v,rfl,hA,G,k,q⟩:=h
    have nd:=scGood.nd
    have hu8:(A.deeper (envOfC "_law_good" (defScope sGood) s.heap.objs.size f cdv)).units + 8 < cLine:=by have:=hr.un; omega
    refine ⟨_,pss_cons (ps_if (pt_not (pt_val (pe_callB call_isinst rfl T.isinstance boot_isinstance (pa_v (pv 1) (pa_v (pe_bltn (v:=.ty "tuple") rfl T.tuple boot_tuple rfl) pa_nil))))) (pss_one (ps_ret pe_bl)) pss_nil) <|
      pss_cons (ps_for PassesOwn.never rfl (pi_tup (pv 1)) (pg_name (i:=2) nd rfl (Or.inl rfl))
        (pss_cons (ps_if (PW.pt (pw_or (pt_not (pt_val (pe_callB call_isinst rfl T.isinstance boot_isinstance (pa_v (pv 2) (pa_v (pe_bltn (v:=.ty "tuple") rfl T.tuple boot_tuple rfl) pa_nil))))) (pw_or1 (pt_cmpR op_ne (pe_callB call_len_seq rfl T.len PySem.boot_len (pa_v (pv 2) pa_nil)) pe_int (nomark _))))) (pss_one (ps_ret pe_bl)) pss_nil) <|
         pss_cons (ps_if (pt_cmpR (op_neNil (hu_of hr)) (pe_comp1 (defScope sGood).names nGd ["_law_one"] [] rfl (pi_tup (pv 2)) rfl rfl rfl (by decide +kernel)
            (fun Z => pg_name (i:=0) (show (["_law_one"]:List Str).Nodup by decide +kernel) rfl (Or.inl rfl)) (fun Z => pts_one (PW.pt (pw_or (pt_not (pt_val (pe_callB call_isinst rfl T.isinstance boot_isinstance (pa_v (pv 0) (pa_v (pe_bltn (v:=.ty "int") rfl T.int boot_int rfl) pa_nil))))) (pw_or1 (pt_val (pe_callB call_isinst rfl T.isinstance boot_isinstance (pa_v (pv 0) (pa_v (pe_bltn (v:=.ty "bool") rfl T.bool boot_bool rfl) pa_nil)))))))) (fun Z => pv 0)) (pe_lst pa_nil) (nomark _)) (pss_one (ps_ret pe_bl)) pss_nil) <|
         pss_one (ps_if (pt_cmpR (op_notInD 1 (hu1_of hr)) (pv 2) (pe_call a1.ok hr rfl a1.nm a1.kp a1.bd .nil pass0 (pa_v (pv 0) pa_nil)) rfl) (pss_one (ps_ret pe_bl)) pss_nil))) <|
      pss_one (ps_ret (pe_cmpR (op_eqU 1 (hu1_of hr)) (pe_callTy call_list_of rfl T2.list boot_list (pa_v (pv 1) pa_nil)) (pe_callB (call_sortedKT (hf:=Stb.hT) rfl) rfl T2.sorted boot_sorted (pa_k (pe_callTy (call_setTK (kk:=Gs.kkT P w) (Pz:=fun H z => H z.1 = some (.tup (z.2.map V.int))) [] rfl hu8 (fun I h => lift_T I h)) rfl T2.set boot_set (pa_v (pv 1) pa_nil)) pa_nil)) (nomark _))),?_⟩
    have fail:landV H g v = false→∀ H',Same H H'→Q (.bl false) H':=fun e H' hs => by have:=q H' hs; rw [e] at this; exact this
    obtain ⟨ty,hty,_,_,k3⟩:=ty_of (K:=K) (k.le (show 1 ≤ 3 by decide))
    refine ⟨_,rfl,_,"tuple",ty,_,rfl,hty,k3,_,rfl,iteB (fun e => ?_) fun e => ?_⟩
    · refine fail ?_ H (Same.refl H)
      unfold landV
      cases z:tupOf H v with
      | none => rfl
      | some xs => rw [z] at e; cases e
    cases z:tupOf H v with
    | none => rw [z] at e; cases e
    | some xs =>
    obtain ⟨t,rfl,ht⟩:=of_tupOf z
    obtain ⟨hz,hk⟩:=k.items ht
    have hV:landV H g (.ref t) = (xs.all (isCell H g) && upP (plsOf H xs)):=by unfold landV; rw [z]
    have failX:∀ x ∈ xs,isCell H g x = false→∀ H',Same H H'→Q (.bl false) H':=fun x hx e => fail (by
      have:xs.all (isCell H g) = false:=by
        rw [Bool.eq_false_iff]; intro z
        have:=List.all_eq_true.mp z x hx
        rw [e] at this; cases this
      rw [hV,this]; rfl)
    refine ⟨_,rfl,t,rfl,⟨xs,SqT.of ht⟩,?_⟩
    refine for_tup (K:=K) (a:=t) (xs:=xs) (fun i σ H' => (∃ o,σ = [some (.ref a),some (.ref t),o])∧Same H H'∧∀ x ∈ xs.take i,isCell H g x = true) ⟨⟨_,rfl⟩,Same.refl _,fun x hx => by cases hx⟩ (fun i σ H' _ h => SqT.of (h.2.1 _ _ ht)) ?_ ?_
    · rintro i x σ H' hi ⟨⟨o,rfl⟩,hs,hall⟩
      have hxm:=List.mem_of_getElem? hi
      have kx:=hk x hxm
      obtain ⟨ty,hty,_,_,k3⟩:=ty_of (K:=K) ((kx.ext hs.ext).le (show 1 ≤ 2 by decide))
      rw [hs.tupOf (kx.le (by decide))] at k3
      refine ⟨_,rfl,_,"tuple",ty,_,rfl,hty,k3,_,rfl,iteB (fun e => ?_) fun e => ?_⟩
      · refine iteT (failX x hxm ?_ H' hs)
        unfold isCell placeOf
        cases zr:tupOf H x with
        | none => rfl
        | some ys => rw [zr] at e; cases e
      cases zr:tupOf H x with
      | none => rw [zr] at e; cases e
      | some ys =>
      obtain ⟨b,rfl,hb⟩:=of_tupOf zr
      obtain ⟨hz2,hk2⟩:=kx.items hb
      refine ⟨_,rfl,b,ys,rfl,.inr (SqT.of (hs _ _ hb)),rfl,_,rfl,?_⟩
      have np:(∀ r c,ys ≠ [.int r,.int c])→isCell H g (.ref b) = false:=fun hne => by
        unfold isCell placeOf
        rw [zr]
        split
        · rename_i c' hc'
          split at hc'
          · rename_i r2 c2 hz; exact absurd (Option.some.inj hz) (hne r2 c2)
          · cases hc'
        · rfl
      refine iteB (fun e2 => ?_) fun e2 => ?_
      · refine failX _ hxm (np fun r c e' => ?_) H' hs
        rw [e'] at e2; simp at e2
      have l2:ys.length = 2:=by
        have:¬ V.int (ys.length:Nat) ≠ V.int 2:=by simpa using e2
        have:=V.int.inj (Classical.not_not.mp this)
        omega
      refine ⟨_,rfl,b,rfl,⟨ys,SqT.of (hs _ _ hb)⟩,fun Z l hl => ?_⟩
      refine comp_filtV (fun y => !(isInt y)) (hs _ _ hb) hl hz2 (fun y H2 Q' hm hs2 hq => ?_) fun σ H2 hs2 hn => ?_
      · have ky:=((hk2 y hm).ext hs.ext).ext hs2.ext
        obtain ⟨ty,hty,kk1,kk2,_⟩:=ty_of (K:=K) ky
        have fin:=hq H2 (Same.refl _)
        refine ⟨_,rfl,_,"int",ty,_,rfl,hty,kk1,_,rfl,iteB (fun e1 => ?_) fun e1 => ?_⟩
        · have:isInt y = false:=by cases y <;> first | rfl | cases e1
          rw [this] at fin; exact fin
        refine ⟨_,rfl,_,"bool",ty,_,rfl,hty,kk2,_,rfl,?_⟩
        have:(!(isInt y)) = isBl y:=by cases y <;> first | rfl | cases e1
        rw [this] at fin; exact fin
      · generalize hns:(ys.filter fun y => !(isInt y)) = ns at hn
        have hiff:ns = [] ↔ ∀ y ∈ ys,isInt y = true:=by
          rw [← hns,List.filter_eq_nil_iff]
          simp
        have sB:=hs.trans hs2
        refine ⟨by show 0 ≤ sizeLine; decide,fun l4 hl4 => ?_⟩
        have s4:=same_upd (o:=.lst []) hl4
        have sC:=sB.trans s4
        refine ⟨l,l4,_,rfl,rfl,s4 _ _ hn,upd_same,_,rfl,?_⟩
        refine iteB (fun e3 => ?_) fun e3 => ?_
        · have hne:¬ ns = []:=by simpa using e3
          refine failX _ hxm (np fun r c e' => hne (hiff.mpr ?_)) _ sC
          rw [e']
          intro y hy
          simp only [List.mem_cons,List.not_mem_nil,or_false] at hy
          rcases hy with rfl | rfl <;> rfl
        · have hnn:ns = []:=by simpa using e3
          have hints:=hiff.mp hnn
          obtain ⟨r,c,e'⟩:∃ r c,ys = [.int r,.int c]:=by
            match ys,l2,hints with
            | [y1,y2],_,hints =>
              have h1:=hints y1 (by simp)
              have h2:=hints y2 (by simp)
              cases y1 <;> first | cases h1 | skip
              cases y2 <;> first | cases h2 | skip
              exact ⟨_,_,rfl⟩
          rw [e'] at hb
          have hcell:isCell H g (.ref b) = decide ((r,c) ∈ gridF pos g):=by unfold isCell; rw [of_place (c:=(r,c)) hb]
          refine ⟨_,rfl,_,rfl,a,g,w',rfl,hA.same sC,G,fun H5 lc ps hlc s5 hlc' hP => ?_⟩
          refine ⟨lc,_,_,rfl,.inr hlc',e3Pl (d:=(r,c)) (s5 _ _ (sC _ _ hb)) hP,_,rfl,?_⟩
          rw [any_eqP]
          refine iteB (fun e5 => ?_) fun e5 => ?_
          · refine failX _ hxm ?_ H5 (sC.trans s5)
            rw [hcell]; simpa using e5
          · refine ⟨⟨_,rfl⟩,sC.trans s5,fun x hx => ?_⟩
            rw [List.take_succ,hi] at hx
            rcases List.mem_append.mp hx with u | u
            · exact hall x u
            · rw [List.mem_singleton.mp u,hcell]; simpa using e5
    · rintro σ H' ⟨⟨o,rfl⟩,hs,hall⟩
      rw [List.take_of_length_le (Nat.le_refl _)] at hall
      have hxa:xs.all (isCell H g) = true:=List.all_eq_true.mpr hall
      obtain ⟨ps,ex,hP,hc⟩:=cells_pl hxa
      rw [hxa] at hV
      have hV':landV H g (.ref t) = upP (plsOf H xs):=by rw [hV]; rfl
      generalize plsOf H xs = cs at hP hc hV'
      rw [ex] at ht
      have h10:(gridF pos g).length ≤ 10:=by rw [len_cells]; exact G.c10
      refine ⟨_,rfl,t,_,rfl,.inr (SqT.of (hs _ _ ht)),fun l1 hl1 => ?_⟩
      have s1:=same_upd (o:=.lst (ps.map V.ref)) hl1
      have sA:=hs.trans s1
      obtain ⟨z1,z2,z3⟩:=zip2_is (hP.same sA)
      have ez:(ps.map V.ref) = (zip2 ps cs).map fun z => V.ref z.1:=by
        have:=congrArg (List.map V.ref) z1
        rw [List.map_map] at this
        exact this.symm
      refine ⟨_,rfl,t,zip2 ps cs,(gridF pos g).map fun c => [c.1,c.2],rfl,SqT.of (by rw [← ez]; exact sA _ _ ht),fun z hz => (z3 z hz).1,by rw [List.length_map]; omega,fun z hz => ?_,fun l2 ys hl2 ded => ?_⟩
      · have:z.2 ∈ (zip2 ps cs).map (·.2):=List.mem_map_of_mem hz
        rw [z2] at this
        obtain ⟨c,hcc,e⟩:=List.mem_map.mp this
        rw [← e]; exact List.mem_map_of_mem (hc c hcc)
      have s2:=same_upd (o:=setK (Gs.kkT P w).hs w l2 ys) hl2
      have hys:∀ y ∈ ys,(y.2,y.1) ∈ zip2 ps cs:=ded.of
      have hyl:ys.length ≤ 10:=by
        have:=Stb.len_le_of_sub (ys.map (·.1)) ((gridF pos g).map fun c => [c.1,c.2]) ded.nd fun k hk => by
          obtain ⟨y,hy,rfl⟩:=List.mem_map.mp hk
          have:y.1 ∈ (zip2 ps cs).map (·.2):=List.mem_map.mpr ⟨_,hys y hy,rfl⟩
          rw [z2] at this
          obtain ⟨c,hcc,e⟩:=List.mem_map.mp this
          rw [← e]; exact List.mem_map_of_mem (hc c hcc)
        rw [List.length_map,List.length_map] at this
        omega
      refine ⟨l2,ys,rfl,upd_same,fun y hy => ?_,by omega,fun l3 zs' hl3 so => ?_⟩
      · obtain ⟨h1,h2⟩:=z3 _ (hys y hy)
        exact ⟨s2 _ _ h1,fun e => by rw [e] at h2; cases h2⟩
      have s3:=same_upd (o:=.lst (zs'.map fun z => V.ref z.1)) hl3
      have sD:=(sA.trans s2).trans s3
      have hes:=eq_sorted (zs:=zip2 ps cs) ⟨ded.nd,ded.of,ded.all⟩ so
      rw [z2,upL_rows] at hes
      have q':=q _ sD
      rw [hV',← hes] at q'
      refine ⟨l1,l3,(zip2 ps cs).map (fun z => V.ref z.1),_,rfl,rfl,by rw [← ez]; exact s3 _ _ (s2 _ _ upd_same),upd_same,?_⟩
      by_cases el:(zip2 ps cs).length = zs'.length
      · obtain ⟨ks,k1,k2⟩:=e3_rows (n:=0) (m:=2) (zs:=zip2 ps cs) (zs':=zs') el (fun z hz => ⟨s3 _ _ (s2 _ _ (z3 z hz).1),(z3 z hz).2⟩) (fun z hz => by
          have:z ∈ ys.map fun x => (x.2,x.1):=so.1.mem_iff.mp hz
          obtain ⟨y,hy,rfl⟩:=List.mem_map.mp this
          obtain ⟨h1,h2⟩:=z3 _ (hys y hy)
          exact ⟨s3 _ _ (s2 _ _ h1),h2⟩)
        rw [z2] at k2
        refine .inr ⟨ks,k1,?_⟩
        show Q (.bl (ks.all id)) _
        rw [k2]
        exact q'
      · refine .inl ⟨by rw [List.length_map,List.length_map]; exact el,?_⟩
        have:decide (rowsP cs = zs'.map (·.2)) = false:=decide_eq_false fun e => el (by
          have:=congrArg List.length e
          rw [← z2,List.length_map,List.length_map] at this
          exact this)
        rw [this] at q'
        exact q'
end
end M43
namespace L2
open PySem PySem.Spec PyProof.Rows
noncomputable def revV (xs:List V):List V:=(List.range xs.length).filterMap fun (k:Nat) => xs[(((xs.length:Int) - 1) + (k:Int) * (-1)).toNat]?
theorem revV_mem {xs:List V} {x:V} (h:x ∈ revV xs):x ∈ xs:=by
 obtain ⟨k,_,e⟩:=List.mem_filterMap.mp h
 exact List.mem_of_getElem? e
theorem revV_len (xs:List V):(revV xs).length ≤ xs.length:=by
 have:=List.length_filterMap_le (fun k:Nat => xs[(((xs.length:Int) - 1) + (k:Int) * (-1)).toNat]?) (List.range xs.length)
 rw [List.length_range] at this
 exact this
theorem vals_pick {xs:List V} {us:List Value} (r:Vals xs us) (f:Nat→Nat):∀ ks:List Nat,Vals (ks.filterMap fun k => xs[f k]?) (ks.filterMap fun k => us[f k]?)
 | [] => .nil
 | k :: ks => by
  rw [List.filterMap_cons,List.filterMap_cons]
  cases e:xs[f k]? with
  | none => rw [r.none_of e]; exact vals_pick r f ks
  | some x =>
   obtain ⟨u,hu,ru⟩:=r.get e
   rw [hu]; exact .cons ru (vals_pick r f ks)
namespace HTr
open HT
section
variable {prog:Program} {w:World} {A:Around} {E:Value→Shared→Prop} {s:Shared}
theorem places_rev (n:Nat):Builtin.Slice.slicePlaces ((n:Int) - 1) (-1) (-1) = n:=by
 unfold Builtin.Slice.slicePlaces
 rw [if_neg (by decide)]
 by_cases h:(n:Int) - 1 > -1
 ·rw [if_pos h]
  have:-(-1:Int) = 1:=by decide
  rw [this,Int.ediv_one]; omega
 ·rw [if_neg h]; omega
theorem getItem_tuple_rev {t sl:Addr} {items:Array Value} {vs:Value} {Q:Value→Shared→Prop} (ht:IsTup s.heap t items) (hs:s.heap.IsSliceOf sl .none .none vs) (ps:IsPart vs (some (-1)))
  (h:Q (.ref s.heap.objs.size) { s with heap:=s.heap.push { cls:=.type "tuple",data:=.seq ((List.range items.size).filterMap fun (k:Nat) => items[(((items.size:Int) - 1) + (k:Int) * (-1)).toNat]?).toArray } })
  (hsz:items.size ≤ sizeLine):wpAny (model prog w) A (getItem (.ref t) (.ref sl)) Q E s:=by
 have htake:sizeOk (.seq ((List.range items.size).filterMap fun (k:Nat) => items[(((items.size:Int) - 1) + (k:Int) * (-1)).toNat]?).toArray):=by
  show ((List.range items.size).filterMap fun (k:Nat) => items[(((items.size:Int) - 1) + (k:Int) * (-1)).toNat]?).toArray.size ≤ sizeLine
  rw [List.size_toArray]
  have:=List.length_filterMap_le (fun k:Nat => items[(((items.size:Int) - 1) + (k:Int) * (-1)).toNat]?) (List.range items.size)
  rw [List.length_range] at this
  omega
 obtain ⟨os,hos,hcs,hds⟩:=id hs
 have hTs:s.TypeIs (.ref sl) "slice":=⟨os,hos,hcs⟩
 unfold getItem
 try with_reducible refine wpAny_holding ?_
 first | refine wpAny_bind (wpAny_pure ?_) | skip
 refine wpAny_bind (wpAny_sequenceKey ht.typeIs (by decide) ?_)
 refine wpAny_bind (wpAny_callSpecial?_slot (name:=Str.ofString "__getitem__") ht.typeIs PyProof.Rows.slot_tuple_getitem
  (wpAny_call_entry PyProof.Rows.slot_tuple_getitem ht.typeIs entry_tuple_getitem ?_ (args_tuple_getitem _ _)))
 show wpAny _ _ (Builtin.Tuple.tupleItemsOf (.ref t) >>= _) _ _ s
 refine wpAny_bind (tupleItemsOf_ ht ?_)
 refine wpAny_bind (wpAny_typeOf hTs ?_)
 rw [if_pos (by decide)]
 have happ:∀ Q':Int × Int × Nat→Shared→Prop,Q' ((items.size:Int) - 1, -1,items.size) s→wpAny (model prog w) A.in1 (Builtin.Slice.sliceApplied (.ref sl) (pure (items.size:Int))) Q' E s:=fun Q' q' => by
  unfold Builtin.Slice.sliceApplied Builtin.Slice.sliceFields
  refine wpAny_bind (wpAny_bind (wpAny_field hos hds (x:=.none) rfl (wpAny_bind (wpAny_field hos hds (x:=.none) rfl (wpAny_bind (wpAny_field hos hds (x:=vs) rfl (wpAny_pure ?_)))))))
  refine wpAny_bind (slicePart_ ps ?_)
  show wpAny _ _ (if ((-1:Int) == 0) = true then _ else _) _ _ s
  rw [if_neg (by decide)]
  refine wpAny_bind (slicePart_none (wpAny_bind (slicePart_none (wpAny_bind (wpAny_pure ?_)))))
  show wpAny _ _ (pure ((items.size:Int) - 1,(-1:Int),Builtin.Slice.slicePlaces ((items.size:Int) - 1) (-1) (-1))) _ _ s
  rw [places_rev]
  exact wpAny_pure q'
 refine wpAny_bind (happ _ ?_)
 dsimp only
 rw [show ((((items.size:Int) - 1) == 0 && (-1:Int) == 1 && items.size == items.size)) = false by simp]
 simp only [Bool.false_eq_true,if_false]
 refine wpAny_bind (wpAny_newObj_type ?_ htake)
 exact wpAny_pure ⟨_,rfl,wpAny_pure h⟩
end
end HTr
section
variable {X:Cx} {e st:Expr} {te ts:TE} {pos p2:Pos}
theorem pe_rev (he:PE X e te) (hst:PE X st ts):PE X (.Subscript e (.Slice none none (some st) p2) pos) (fun σ H Q => te σ H fun x H1 => ts σ H1 fun y H2 => y = .int (-1)∧∃ a xs,x = .ref a∧H2 a = some (.tup xs)∧∀ p,H2 p = none→Q (.ref p) (upd H2 p (.tup (revV xs)))):=by
 intro pins s σ H Q I h
 refine Subscript_ (thn (he pins s σ H _ I h) fun v s1 ⟨x,H1,I1,r1,q1⟩ => ?_)
 refine wpAny_Slice ?_
 rw [evalPart_none]
 refine wpAny_pure ?_
 refine wpAny_pure ?_
 rw [evalPart_some]
 refine thn (hst pins s1 σ H1 _ I1 q1) fun vs s3 ⟨y,H3,I3,ry,q3⟩ => ?_
 obtain ⟨rfl,a,xs,rfl,ha,q⟩:=q3
 obtain ⟨t,rfl⟩:=ry
 cases (show v = Value.ref a from r1)
 have I4:Inv X pins σ H3 { s3 with heap:=s3.heap.push { cls:=.type "slice",data:=.fields #[.none,.none,.int (-1) t] } }:=I3.kept (t':=s3.toks) fun b ob q => Heap.get?_push_of_some _ q
 obtain ⟨its,r,ht,hz⟩:=I4.tuple (SqT.of (K:=X.K) ha)
 have hlen:its.length = xs.length:=r.length.symm
 show wpAny (model X.prog X.w) X.A (subscriptTail e (.Slice none none (some st) p2) (.ref a) (.ref s3.heap.objs.size)) (EP X pins σ Q) X.xe { s3 with heap:=s3.heap.push { cls:=.type "slice",data:=.fields #[.none,.none,.int (-1) t] } }
 refine tail_any (ops:=[.ref a,.ref s3.heap.objs.size]) ht.typeIs PyProof.Rows.slot_tuple_getitem.lookup ?_ (by with_unfolding_all rfl)
 refine HTr.getItem_tuple_rev (vs:=.int (-1) t) ht (Heap.IsSliceOf.new ..) (.int _ t) ?_ (by rw [List.size_toArray,hlen]; exact hz)
 have e:((List.range its.toArray.size).filterMap fun (k:Nat) => its.toArray[(((its.toArray.size:Int) - 1) + (k:Int) * (-1)).toNat]?) = (List.range xs.length).filterMap fun (k:Nat) => its[(((xs.length:Int) - 1) + (k:Int) * (-1)).toNat]?:=by
  rw [List.size_toArray,hlen]
  simp only [List.getElem?_toArray]
 rw [e]
 refine ⟨.ref _,_,I4.laid (t':=s3.toks) (o:=.tup (revV xs)) (fun b ob q => Heap.get?_push_of_some _ q) (Nat.le_refl _) ⟨Nat.le_trans (revV_len xs) hz,_,?_,IsTup.new _ _⟩,rfl,q _ (I4.hok.fresh (Nat.le_refl _))⟩
 exact vals_pick r (fun k => (((xs.length:Int) - 1) + (k:Int) * (-1)).toNat) _
end
end L2
namespace L2
open PySem PySem.Spec PyProof.Rows
theorem cutV_mem {xs:List V} {lo hi:Option Int} {x:V} (h:x ∈ cutV xs lo hi):x ∈ xs:=List.mem_of_mem_drop (List.mem_of_mem_take h)
theorem KnA.app {H:Hp} {xs ys:List V} (h1:∀ x ∈ xs,KnA H x) (h2:∀ x ∈ ys,KnA H x):∀ x ∈ xs ++ ys,KnA H x:=fun x hx => (List.mem_append.mp hx).elim (h1 x) (h2 x)
theorem KnA.one {H:Hp} {y:V} (h:KnA H y):∀ x ∈ [y],KnA H x:=fun x hx => by rw [List.mem_singleton.mp hx]; exact h
theorem KnA.two {H:Hp} {x y:V} (h:KnA H x) (h2:KnA H y):∀ z ∈ [x,y],KnA H z:=fun z hz => by
 rcases List.mem_cons.mp hz with e | e
 ·rw [e]; exact h
 ·rw [List.mem_singleton.mp e]; exact h2
section
variable {X:Cx} {es:List Expr} {t:TA} {p1 pos:Pos}
theorem ps_setlq {i:Nat} {x:Str} {pos':Pos} (hN:X.N.Nodup) (hi:X.N[i]? = some x) (hx:Loc X.env.scope x) (h:PAq X es t) (hs:swapsWith (.List es p1) (some (.Name x pos')) pos.line X.env = pure false:=by rfl) (hf:X.fn x = true ∨ X.env.scope.names.lookup x = some .local:=by first | exact .inl rfl | exact .inr rfl | assumption) :
  PSq X (.Assign [.Name x pos'] (.List es p1) pos) (tAsg (tLst t) (gName i)):=by unfold PSq; exact ps_set hN hi hx (pe_lst (pa_q h)) hs hf
end
end L2
namespace M43
open PySem L2 PyProof.Rows Grd Wlk Cyc Srt Stb
noncomputable abbrev sBent:Stmt:=top 52
theorem SqA.kn {H:Hp} {t:Addr} {cs:List Pl} (h:SqA H t cs) (hz:cs.length ≤ 1000):KnA H (.ref t):=by
 obtain ⟨ps,ht,hP⟩:=h
 have hl:ps.length = cs.length:=Paired.length hP
 refine KnA.tup ht (by rw [List.length_map]; omega) fun x hx => ?_
 obtain ⟨p,hp,rfl⟩:=List.mem_map.mp hx
 obtain ⟨i,hi⟩:=List.mem_iff_getElem?.mp hp
 obtain ⟨c,_,he⟩:=hP.at hi
 exact KnA.tup he (by simp) (KnA.two (KnA.int _) (KnA.int _))
theorem kn_items {H:Hp} {ps:List Addr} {cs:List Pl} (hP:PlAt H ps cs):∀ x ∈ ps.map V.ref,KnA H x:=fun x hx => by
 obtain ⟨p,hp,rfl⟩:=List.mem_map.mp hx
 obtain ⟨i,hi⟩:=List.mem_iff_getElem?.mp hp
 obtain ⟨c,_,he⟩:=hP.at hi
 exact KnA.tup he (by simp) (KnA.two (KnA.int _) (KnA.int _))
noncomputable def spBent:Sp:=fun vs H Q _ => ∃ p a t g w cs,vs = [.ref p,.ref a,.ref t]∧PenAt H p∧GridAt H a g∧Good g w∧SqA H t cs∧LandOf g cs∧∀ v' H',Stp p H H'→KnA H' v'→Q v' H'
section
variable {P:Program} {w:World} {K:PySem.W.Frag} {mg:Str→Option Value} {base:Heap}
noncomputable abbrev nBent:List Str:=["_law_pen_here","_law_mead_here","_law_land_here","_law_at","_law_way","_law_some","_law_odd"]
theorem scBent:FnScope nBent ["_law_pen_here","_law_mead_here","_law_land_here"] (defScope sBent):=⟨rfl,rfl,rfl,by decide +kernel,rfl,by decide +kernel,by decide +kernel⟩
theorem ndBt:(["_law_place","_law_pen_here"]:List Str).Nodup:=by decide +kernel
noncomputable abbrev pas:Stmt:=.Pass ⟨0,0,0,0⟩
noncomputable abbrev cxB (P:Program) (w:World) (K:PySem.W.Frag) (mg:Str→Option Value) (base:Heap) (f:Addr) (cdv:Value) (A:Around) (outer:List Env) (s:Shared) (H:Hp) (E:XK):Cx:=(cxOf CX0 P w K mg base nBent "_law_bent" (defScope sBent) f cdv A outer s H E).nox
variable {f:Addr} {cdv:Value} {A:Around} {outer:List Env} {s:Shared} {H0:Hp} {E:XK}
theorem bent1:∃ tt,PSq (cxB P w K mg base f cdv A outer s H0 E) ((defBody sBent).getD 1 pas) tt∧∀ (D:Ends) (p a t:Addr) (at' way:Int) (H:Hp),PenAt H p →
  (∀ l xs H',Same H H'→l ≠ p→H' l = some (.lst xs)→xs.length = 6→(∀ x ∈ xs,KnA H' x)→D.nx [some (.ref p),some (.ref a),some (.ref t),some (.int at'),some (.int way),some (.ref l),none] H') →
  tt D [some (.ref p),some (.ref a),some (.ref t),some (.int at'),some (.int way),none,none] H:=by
 have nd:=scBent.nd
 refine ⟨_,ps_setlq (i:=5) nd rfl (Or.inl rfl) (pq_tq (tupq (pq_i (pq_i pq_nil))) (pq_tq (tupq (pq_i (pq_tf pq_nil))) (pq_tq (tupq (pq_i pq_nil)) (pq_lq (lstq (pq_i (pq_i pq_nil))) (pq_n (pq_tq (tupq (pq_u (pe_un un_neg pe_int) (pq_i pq_nil))) pq_nil)))))),?_⟩
 intro D p a t at' way H hp q
 refine ⟨by show 2 ≤ sizeLine; decide,fun t0 ht0 => ⟨by show 2 ≤ sizeLine; decide,fun t1 ht1 => ⟨by show 1 ≤ sizeLine; decide,fun t2 ht2 => ⟨by show 2 ≤ sizeLine; decide,fun l3 hl3 => ?_⟩⟩⟩⟩
 refine ⟨_,rfl,by show 2 ≤ sizeLine; decide,fun t4 ht4 => ⟨by show 6 ≤ sizeLine; decide,fun l hl => ?_⟩⟩
 have s0:=same_upd (o:=.tup [.int 9,.int 9]) ht0
 have s1:=same_upd (o:=.tup [.int 0,.bl true]) ht1
 have s2:=same_upd (o:=.tup [.int 0]) ht2
 have s3:=same_upd (o:=.lst [.int 0,.int 0]) hl3
 have s4:=same_upd (o:=.tup [.int (-1),.int 0]) ht4
 have s5:=same_upd (o:=.lst [.ref t0,.ref t1,.ref t2,.ref l3,.non,.ref t4]) hl
 have k0:=(KnA.tup (upd_same (H:=H) (a:=t0)) (by decide) (KnA.two (KnA.int 9) (KnA.int 9))).ext ((((s1.trans s2).trans s3).trans s4).trans s5).ext
 have k1:=(KnA.tup (upd_same (a:=t1)) (by decide) (KnA.two (KnA.int 0) (KnA.bl true))).ext (((s2.trans s3).trans s4).trans s5).ext
 have k2:=(KnA.tup (upd_same (a:=t2)) (by decide) (KnA.one (KnA.int 0))).ext ((s3.trans s4).trans s5).ext
 have k3:=(KnA.lst (upd_same (a:=l3))).ext (s4.trans s5).ext
 have k4:=(KnA.tup (upd_same (a:=t4)) (by decide) (KnA.two (KnA.int (-1)) (KnA.int 0))).ext s5.ext
 have sA:=((((s0.trans s1).trans s2).trans s3).trans s4)
 have pen:PenAt _ p:=let ⟨x,y,e⟩:=hp; ⟨x,y,sA _ _ e⟩
 refine q l _ _ (sA.trans s5) (pen_ne pen hl) upd_same rfl fun x hx => ?_
 simp only [List.mem_cons,List.not_mem_nil,or_false] at hx
 rcases hx with rfl | rfl | rfl | rfl | rfl | rfl
 ·exact k0
 ·exact k1
 ·exact k2
 ·exact k3
 ·exact KnA.non
 ·exact k4
theorem bent0 {g1:Addr} {d1:FuncData} (hr:Room 1 (cxB P w K mg base f cdv A outer s H0 E).A) (T:Txt mg) (aD:At P w K mg base CX0 1 "_law_draw" g1 d1 ["_law_pen_here","_law_many"] spDraw):∃ tt,PS (cxB P w K mg base f cdv A outer s H0 E) ((defBody sBent).getD 0 pas) tt∧∀ (D:Ends) (p a t:Addr) (xs:List V) (H:Hp),PenAt H p→H t = some (.tup xs)→xs.length ≤ 1000 →
  (∀ at' way H',Stp p H H'→0 ≤ at'→D.nx [some (.ref p),some (.ref a),some (.ref t),some (.int at'),some (.int way),none,none] H') →
  tt D [some (.ref p),some (.ref a),some (.ref t),none,none,none,none] H:=by
 have nd:=scBent.nd
 refine ⟨_,ps_par (i:=3) (j:=4) rfl nd rfl rfl (by decide) rfl rfl (pa_k (pe_call aD.ok hr rfl aD.nm aD.kp aD.bd .nil pass0 (pa_v (pv 0) (pa_b (pe_op op_add (pe_callB call_len_seq rfl T.len PySem.boot_len (pa_v (pv 2) pa_nil)) pe_int) pa_nil))) (pa_k (pe_call aD.ok hr rfl aD.nm aD.kp aD.bd .nil pass0 (pa_v (pv 0) (pa_c pe_int pa_nil))) pa_nil)) rfl,?_⟩
 intro D p a t xs H hp ht hz q
 refine ⟨_,rfl,_,rfl,t,_,rfl,.inr (SqT.of ht),_,_,rfl,rfl,p,_,rfl,hp,by omega,by omega,fun at' H1 a0 a1 st1 => ?_⟩
 refine ⟨_,rfl,p,6,rfl,st1.pen,by decide,by decide,fun way H2 w0 w1 st2 => ?_⟩
 exact ⟨_,_,rfl,q at' way H2 (st1.trans st2) a0⟩
theorem bent2 {g1:Addr} {d1:FuncData} (hr:Room 1 (cxB P w K mg base f cdv A outer s H0 E).A) (T:Txt mg) (aD:At P w K mg base CX0 1 "_law_draw" g1 d1 ["_law_pen_here","_law_many"] spDraw):∃ tt,PS (cxB P w K mg base f cdv A outer s H0 E) ((defBody sBent).getD 2 pas) tt∧∀ (D:Ends) (p a t l:Addr) (at' way:Int) (xs rows:List V) (H:Hp),PenAt H p→l ≠ p→H l = some (.lst xs)→xs.length = 6→(∀ x ∈ xs,KnA H x)→H a = some (.tup rows)→rows.length ≤ 1000 →
  (∀ odd H',Stp p H H'→KnA H' odd→D.nx [some (.ref p),some (.ref a),some (.ref t),some (.int at'),some (.int way),some (.ref l),some odd] H') →
  tt D [some (.ref p),some (.ref a),some (.ref t),some (.int at'),some (.int way),some (.ref l),none] H:=by
 have nd:=scBent.nd
 refine ⟨_,ps_set (i:=6) nd rfl (Or.inl rfl) (pe_ix ix_list (pe_op op_cat (pv 5) (pe_lst (pa_t (pe_tup (pa_k (pe_callB call_len_seq rfl T.len PySem.boot_len (pa_v (pv 1) pa_nil)) (pa_c pe_int pa_nil))) (pa_c pe_int pa_nil)))) (pe_call aD.ok hr rfl aD.nm aD.kp aD.bd .nil pass0 (pa_v (pv 0) (pa_c pe_int pa_nil))) (fun _ _ => rfl)),?_⟩
 intro D p a t l at' way xs rows H hp hlp hl h6 kx ha hz q
 refine ⟨_,rfl,_,rfl,a,_,rfl,.inr (SqT.of ha),by show 2 ≤ sizeLine; decide,fun t0 ht0 => ⟨by show 2 ≤ sizeLine; decide,fun l1 hl1 => ?_⟩⟩
 have s0:=same_upd (o:=.tup [.int (rows.length:Nat),.int 0]) ht0
 have s1:=same_upd (o:=.lst [.ref t0,.int 0]) hl1
 have s01:=s0.trans s1
 refine ⟨l,l1,_,_,rfl,rfl,s01 _ _ hl,upd_same,by rw [sizeLine_eq,h6]; show 6 + 2 ≤ 16777216; omega,fun l2 hl2 => ?_⟩
 have s2:=same_upd (o:=.lst (xs ++ [.ref t0,.int 0])) hl2
 have sA:=s01.trans s2
 have st:Stp p H _:=(Stp.refl hp).same sA
 have pen1:PenAt _ p:=let ⟨x,y,e⟩:=hp; ⟨x,y,s01 _ _ e⟩
 refine ⟨_,rfl,p,8,rfl,st.pen,by decide,by decide,fun ix H4 i0 i1 st5 => ?_⟩
 have hl2p:l2 ≠ p:=pen_ne pen1 hl2
 have kt:KnA _ (.ref t0):=(KnA.tup (upd_same (H:=H) (a:=t0)) (by show 2 ≤ 1000; decide) (KnA.two (KnA.int _) (KnA.int 0))).ext (s1.trans s2).ext
 obtain ⟨odd,hodd,kodd⟩:=pick (H:=H4) (xs:=xs ++ [.ref t0,.int 0]) i0 (by rw [List.length_append,h6]; exact i1) (KnA.app (fun x hx => ((kx x hx).ext sA.ext).ext (st5.ext st.pen)) (KnA.two (kt.ext (st5.ext st.pen)) (KnA.int 0)))
 exact ⟨l2,_,ix,odd,rfl,rfl,SqL.of (st5.keep l2 _ hl2p upd_same),hodd,q odd H4 (st.trans st5) kodd⟩
theorem bent3 {g1:Addr} {d1:FuncData} (hr:Room 1 (cxB P w K mg base f cdv A outer s H0 E).A) (T:Txt mg) (T2:Txt2 mg) (aD:At P w K mg base CX0 1 "_law_draw" g1 d1 ["_law_pen_here","_law_many"] spDraw):∃ tt,PSs (cxB P w K mg base f cdv A outer s H0 E) ((defBody sBent).drop 3) tt∧∀ (D:Ends) (p a t l:Addr) (at' way:Int) (odd:V) (cs:List Pl) (H:Hp),PenAt H p→SqA H t cs→cs.length ≤ 10→KnA H odd →
  (∀ v H',Stp p H H'→KnA H' v→D.rt v H') →
  tt D [some (.ref p),some (.ref a),some (.ref t),some (.int at'),some (.int way),some (.ref l),some odd] H:=by
 refine ⟨_,pss_cons (ps_if (pt_cmpR op_lt (pv 4) pe_int (nomark _)) (pss_one (ps_ret (pe_op op_catU (pe_op op_catU (pe_slice sl_tupU (pv 2) po_none (po_some (pv 3))) (pe_tup (pa_v (pv 6) pa_nil))) (pe_slice sl_tupU (pv 2) (po_some (pe_op op_add (pv 3) (pv 4))) po_none)))) pss_nil) <|
   pss_cons (ps_if (pt_cmpR op_eq (pv 4) pe_int (nomark _)) (pss_one (ps_ret (pe_rev (pv 2) (pe_un un_neg pe_int)))) pss_nil) <|
   pss_cons (ps_if (pt_cmpR op_eq (pv 4) pe_int (nomark _)) (pss_one (ps_ret (pe_op op_catU (pv 2) (pe_slice sl_tupU (pv 2) (po_some (pe_un un_neg pe_int)) po_none)))) pss_nil) <|
   pss_cons (ps_if (pt_cmpR op_eq (pv 4) pe_int (nomark _)) (pss_one (ps_ret (pe_callTy call_list_of rfl T2.list boot_list (pa_v (pv 2) pa_nil)))) pss_nil) <|
   pss_one (ps_ret (pe_callTy call_tuple_of rfl T.tuple boot_tuple (pa_lc (pe_comp1 (defScope sBent).names nBent ["_law_place"] [("_law_pen_here",0)] rfl (pi_tup (pv 2)) rfl rfl rfl (by decide +kernel)
    (fun Z => pg_name (i:=0) ndBt rfl (Or.inl rfl)) (fun Z => pts_one (pt_cmpR op_eq (pe_call aD.ok hr rfl aD.nm aD.kp aD.bd .nil pass0 (pa_v (pv 1) (pa_c pe_int pa_nil))) pe_int (nomark _))) (fun Z => pv 0)) pa_nil))),?_⟩
 intro D p a t l at' way odd cs H hp hT h10 ko q
 obtain ⟨ts,ht,hP⟩:=id hT
 have hts:ts.length = cs.length:=Paired.length hP
 have hkx:=kn_items hP
 have hzx:(ts.map V.ref).length ≤ 10:=by rw [List.length_map]; omega
 generalize ts.map V.ref = xs at ht hkx hzx
 have refl:=Stp.refl hp
 refine ⟨_,rfl,_,_,rfl,rfl,_,rfl,ite2d (fun _ => ?_) fun _ => ?_⟩
 ·refine ⟨_,rfl,_,rfl,_,rfl,t,xs,rfl,ht,fun c1 H5 s2 hc1 => ?_⟩
  refine ⟨_,rfl,by show 1 ≤ sizeLine; decide,fun c2 hc2 => ?_⟩
  have s3:=same_upd (o:=.tup [odd]) hc2
  have l1:=cutV_length xs none (some at')
  have l2:=cutV_length xs (some (at' + way)) none
  refine ⟨c1,c2,_,_,rfl,rfl,s3 _ _ hc1,upd_same,by rw [sizeLine_eq]; show _ + 1 ≤ _; omega,fun c3 H6 s4 hc3 => ?_⟩
  have s14:=(s2.trans s3).trans s4
  refine ⟨_,rfl,_,rfl,_,rfl,_,_,rfl,rfl,_,rfl,t,xs,rfl,s14 _ _ ht,fun c4 H7 s5 hc4 => ?_⟩
  refine ⟨c3,c4,_,_,rfl,rfl,s5 _ _ hc3,hc4,by rw [sizeLine_eq,List.length_append]; show _ + 1 + _ ≤ _; omega,fun c5 H8 s6 hc5 => ?_⟩
  have sA:=(s14.trans s5).trans s6
  refine q _ _ (refl.same sA) (KnA.tup hc5 ?_ (KnA.app (KnA.app (fun x hx => (hkx x (cutV_mem hx)).ext sA.ext) (KnA.one (ko.ext sA.ext))) fun x hx => (hkx x (cutV_mem hx)).ext sA.ext))
  rw [List.length_append,List.length_append]; show _ + 1 + _ ≤ _; omega
 refine ⟨_,rfl,rfl,_,rfl,ite2d (fun _ => ?_) fun _ => ?_⟩
 ·refine ⟨_,rfl,_,rfl,rfl,t,xs,rfl,ht,fun c hc => ?_⟩
  have s1:=same_upd (o:=.tup (revV xs)) hc
  have l1:=revV_len xs
  exact q _ _ (refl.same s1) (KnA.tup upd_same (by omega) fun x hx => (hkx x (revV_mem hx)).ext s1.ext)
 refine ⟨_,rfl,rfl,_,rfl,ite2d (fun _ => ?_) fun _ => ?_⟩
 ·refine ⟨_,rfl,_,rfl,_,rfl,_,rfl,t,xs,rfl,ht,fun c1 H5 s2 hc1 => ?_⟩
  have l2:=cutV_length xs (some (-1)) none
  refine ⟨t,c1,_,_,rfl,rfl,s2 _ _ ht,hc1,by rw [sizeLine_eq]; omega,fun c5 H8 s6 hc5 => ?_⟩
  have sA:=s2.trans s6
  refine q _ _ (refl.same sA) (KnA.tup hc5 (by rw [List.length_append]; omega) (KnA.app (fun x hx => (hkx x hx).ext sA.ext) fun x hx => (hkx x (cutV_mem hx)).ext sA.ext))
 refine ⟨_,rfl,rfl,_,rfl,ite2d (fun _ => ?_) fun _ => ?_⟩
 ·refine ⟨_,rfl,t,xs,rfl,.inr (SqT.of ht),fun l2 hl2 => ?_⟩
  have s1:=same_upd (o:=.lst xs) hl2
  exact q _ _ (refl.same s1) (KnA.lst upd_same)
 refine ⟨_,rfl,t,rfl,⟨_,SqT.of ht⟩,fun Z l2 hl2 => ?_⟩
 have npt:t ≠ p:=hp.ne ht (by intro z; simp)
 refine for_tup (K:=K) (a:=t) (xs:=xs) (fun i σ H' => (∃ o,σ = [o,some (.ref p)])∧Stp p H H'∧∃ ys,H' l2 = some (.lst ys)∧ys.length ≤ i∧∀ y ∈ ys,KnA H' y) ⟨⟨_,rfl⟩,refl.updL hl2 hp,[],upd_same,Nat.zero_le _,fun y hy => by cases hy⟩ (fun i σ H' _ h => SqT.of (h.2.1.keep _ _ npt ht)) ?_ ?_
 ·rintro i x σ H' hx ⟨⟨o,rfl⟩,hst,ys,hy,hyl,ky⟩
  have hi:i < xs.length:=(List.getElem?_eq_some_iff.mp hx).1
  have npl:l2 ≠ p:=pen_ne hp hl2
  show tBodyC _ _ _ [some x,some (.ref p)] H'
  refine ⟨_,rfl,p,2,rfl,hst.pen,by decide,by decide,fun e H3 e0 e1 st3 => ?_⟩
  have hl3:=st3.keep _ _ npl hy
  have ex3:=st3.ext hst.pen
  have hst3:=hst.trans st3
  refine ⟨rfl,_,rfl,ite2d (fun _ => ?_) fun _ => ?_⟩
  ·have exU:Ext H3 (upd H3 l2 (.lst (ys ++ [x]))):=Ext.updL hl3
   refine ⟨_,rfl,_,hl3,small1000 (by omega),⟨_,rfl⟩,hst3.updL hl2 hp,ys ++ [x],upd_same,by rw [List.length_append]; show _ + 1 ≤ _; omega,KnA.app (fun y hy' => ((ky y hy').ext ex3).ext exU) (KnA.one ?_)⟩
   exact ((hkx x (List.mem_of_getElem? hx)).ext (hst3.ext hp)).ext exU
  ·exact ⟨⟨_,rfl⟩,hst3,ys,hl3,by omega,fun y hy' => (ky y hy').ext ex3⟩
 ·rintro σ H' ⟨_,hst,ys,hy,hyl,ky⟩
  refine ⟨l2,ys,rfl,.inl ⟨SqL.of hy,fun t5 ht5 => ?_⟩⟩
  have s5:=same_upd (o:=.tup ys) ht5
  exact q _ _ (hst.same s5) (KnA.tup upd_same (by omega) fun y hy' => (ky y hy').ext s5.ext)
theorem ok_bent {f g1:Addr} {fd d1:FuncData} (F:Fun K "_law_bent" "_law_bent" sBent f fd) (T:Txt mg) (T2:Txt2 mg) (aD:At P w K mg base CX0 1 "_law_draw" g1 d1 ["_law_pen_here","_law_many"] spDraw):FnOk P w K mg base CX0 2 f fd ["_law_pen_here","_law_mead_here","_law_land_here"] spBent:=by
 refine F.ok scBent (fun vs H Q E h => ?_) (fun cdv A outer s H vs Q E hr h => ?_)
 ·obtain ⟨p,a,t,g,w',cs,rfl,_⟩:=h; rfl
 ·obtain ⟨p,a,t,g,w',cs,rfl,hp,hA,G,hT,hL,q⟩:=h
  have h10:=LandOf.len G hL
  obtain ⟨ts,ht,hP⟩:=id hT
  have hts:ts.length = cs.length:=Paired.length hP
  obtain ⟨bs,ha,hG⟩:=id hA
  have hbs:bs.length = g.length:=Paired.length hG
  have h4:=G.h4
  obtain ⟨u0,g0,j0⟩:=bent0 (P:=P) (w:=w) (K:=K) (mg:=mg) (base:=base) (f:=f) (cdv:=cdv) (A:=A) (outer:=outer) (s:=s) (H0:=H) (E:=E) hr T aD
  obtain ⟨u1,g1',j1⟩:=bent1 (P:=P) (w:=w) (K:=K) (mg:=mg) (base:=base) (f:=f) (cdv:=cdv) (A:=A) (outer:=outer) (s:=s) (H0:=H) (E:=E)
  obtain ⟨u2,g2,j2⟩:=bent2 (P:=P) (w:=w) (K:=K) (mg:=mg) (base:=base) (f:=f) (cdv:=cdv) (A:=A) (outer:=outer) (s:=s) (H0:=H) (E:=E) hr T aD
  obtain ⟨u3,g3,j3⟩:=bent3 (P:=P) (w:=w) (K:=K) (mg:=mg) (base:=base) (f:=f) (cdv:=cdv) (A:=A) (outer:=outer) (s:=s) (H0:=H) (E:=E) hr T T2 aD
  have e:defBody sBent = (defBody sBent).getD 0 pas :: (defBody sBent).getD 1 pas :: (defBody sBent).getD 2 pas :: (defBody sBent).drop 3:=rfl
  generalize (defBody sBent).getD 0 pas = st0 at g0 e
  generalize (defBody sBent).getD 1 pas = st1 at g1' e
  generalize (defBody sBent).getD 2 pas = st2 at g2 e
  generalize (defBody sBent).drop 3 = rest at g3 e
  rw [e]
  refine ⟨_,pss_cons g0 (pss_consq g1' (pss_cons g2 g3)),?_⟩
  refine j0 _ p a t _ H hp ht (by rw [List.length_map]; omega) fun at' way H1 st1 a0 => ?_
  refine j1 _ p a t at' way H1 st1.pen fun l xs H2 s2 hlp hl h6 kx => ?_
  have st12:=st1.same s2
  have ex12:=st12.ext hp
  refine j2 _ p a t l at' way xs _ H2 st12.pen hlp hl h6 kx (ex12.tup _ _ ha) (by rw [List.length_map]; omega) fun odd H3 st3 ko => ?_
  have st123:=st12.trans st3
  exact j3 _ p a t l at' way odd cs H3 st3.pen (SqA.ext hT (st123.ext hp)) h10 ko fun v H4 st4 kv => q v H4 (st123.trans st4) kv
end
end M43
namespace L2
open PySem PySem.Spec PyProof.Rows
end L2
namespace L2
open PySem PySem.Spec PyProof.Rows
noncomputable def MayCallX (X:Cx) (E:XK) (f:Addr) (vs:List V) (H:Hp) (Q:VK):Prop:=∃ (k:Nat) (fd:FuncData) (ps:List Str) (sp:Sp),FnOk X.prog X.w X.K X.mg X.base (CX1 X.prog X.w) k f fd ps sp∧Room k X.A∧Binds X.K fd ps []∧sp vs H Q E
theorem pe_callEX {X:Cx} {E:XK} {a b:Expr} {p pos:Pos} {e:Expr} {es:List Expr} {tf:TE} {t:TA} (hp:Passes (CX1 X.prog X.w) X E) (hf:PE X (.Subscript a b p) tf) (ha:PA X (e :: es) t) (he:starEach (e :: es) X.env = (false,eval e X.env) :: starEach es X.env:=by rfl) (hpl:(backTo pos (starEach es X.env)).any (·.1) = false:=by rfl) :
  PE X (.Call (.Subscript a b p) (e :: es) [] pos) (fun σ H Q => tf σ H fun x H1 => ∃ f,x = .ref f∧PySem.W.keepIn X.K (.ref f) = true∧t σ H1 fun vs H2 => MayCallX X E f vs H2 Q):=by
 intro pins s σ H Q I h
 show wpAny _ _ (eval (.Subscript a b p) X.env >>= fun f => callWith pos f [] (backTo pos (starEach (e :: es) X.env)) (backToKw pos (keywordEach [] X.env))) _ _ _
 refine wpAny_bind (thn (hf pins s σ H _ I h) fun v s1 ⟨x,H1,I1,r1,q1⟩ => ?_)
 obtain ⟨f,rfl,hk,q1⟩:=q1
 cases (show v = Value.ref f from r1)
 refine PySem.W.callWith_K (h₀:=X.base) I1.ok.mod.kin hk (thn (ha pos pins s1 σ H1 _ I1 q1) fun us s2 ⟨vs,H2,I2,r,q⟩ => ⟨I2.kIn,?_⟩) he hpl
 obtain ⟨k,fd,ps,sp,F,hr,hb,q⟩:=q
 have:=run_fn (dvs:=[]) (ds:=[]) F hr hb .nil hp I2 r (by rw [List.append_nil]; exact q)
 exact this
end L2
namespace M43
open PySem L2 PyProof.Rows Grd Wlk Cyc Srt Stb
noncomputable abbrev sTold:Stmt:=top 53
structure Cls (K:PySem.W.Frag) (mg:Str→Option Value) (cE cM cP cL:Addr):Prop where
 mE:mg "MeadError" = some (.ref cE)
 mM:mg "NoMead" = some (.ref cM)
 mP:mg "NoPlace" = some (.ref cP)
 mL:mg "NoLand" = some (.ref cL)
 mV:mg "ValueError" = none
 d:ExcD K cL
 x:PySem.W.exmOne K (.ref cL) (.ref cE) = some true
 k1:PySem.W.kitOne K (.ref cL) (.ref cL) = some true
 k2:PySem.W.kitOne K (.ref cL) (.ref cM) = some false
 k3:PySem.W.kitOne K (.ref cL) (.ref cP) = some false
 k4:PySem.W.kitOne K (.ref cL) (.type "ValueError") = some true
theorem SqA.inj {H:Hp} {t:Addr} {cs ds:List Pl} (h1:SqA H t cs) (h2:SqA H t ds):cs = ds:=by
 obtain ⟨ps,a1,b1⟩:=h1
 obtain ⟨qs,a2,b2⟩:=h2
 rw [a1] at a2
 have e:ps = qs:=by
  have inj:∀ l1 l2:List Addr,l1.map V.ref = l2.map V.ref→l1 = l2:=by
   intro l1
   induction l1 with
   | nil => intro l2 e; cases l2 with | nil => rfl | cons _ _ => cases e
   | cons b l1 ih =>
    intro l2 e
    cases l2 with
    | nil => cases e
    | cons c l2 => simp only [List.map_cons,List.cons.injEq,V.ref.injEq] at e; rw [e.1,ih l2 e.2]
  injection a2 with a2
  injection a2 with a2
  exact inj _ _ a2
 subst e
 clear a1 a2
 induction b1 generalizing ds with
 | nil => cases b2; rfl
 | cons r t ih =>
  cases b2 with
  | cons r' t' =>
   rename_i p c ps cs d ds
   rw [ih t']
   have e:(some (HO.tup [V.int c.1,V.int c.2])) = some (HO.tup [V.int d.1,V.int d.2]):=r.symm.trans r'
   simp only [Option.some.injEq,HO.tup.injEq,List.cons.injEq,V.int.injEq,and_true] at e
   rw [Prod.ext e.1 e.2]
noncomputable def tlN:Nat→Hp→Grid→Addr→List Pl→VK→Prop
 | 0 => tlHangs
 | 1 => tlRoad
 | 2 => tlWorth
 | _ => tlPieces
theorem tlN.same {H H1:Hp} {g:Grid} {t:Addr} {cs:List Pl} {Q:VK} (s:Same H H1):∀ {n:Nat},tlN n H g t cs Q→tlN n H1 g t cs Q
 | 0,h => fun b H' s' hb => h b H' (s.trans s') hb
 | 1,h => fun H' s' => h H' (s.trans s')
 | 2,h => fun H' s' => h H' (s.trans s')
 | n + 3,h => fun l ps H' hl s' hw hp => h l ps H' (s.free hl) (s.trans s') hw hp
noncomputable def spTold:Sp:=fun vs H Q _ => ∃ n a g w v,vs = [.int (n:Nat),.ref a,v]∧n < 4∧GridAt H a g∧Good g w∧Kn H 3 v∧((∃ t cs,v = .ref t∧SqA H t cs∧LandOf g cs∧landV H g v = true∧tlN n H g t cs Q) ∨ (landV H g v = false∧∀ H',Same H H'→Q (.str "none") H'))
theorem land_call {C a:Addr} {g:Grid} {w':Nat} {v:V} {H H1:Hp} {Q:VK} {E:XK} {R:Hp→Grid→Addr→List Pl→VK→Prop} (hA:GridAt H a g) (G:Good g w') (kn:Kn H 3 v) (s:Same H H1)
  (h:(∃ t cs,v = .ref t∧SqA H t cs∧LandOf g cs∧landV H g v = true∧R H1 g t cs Q) ∨ (landV H g v = false∧∀ H',Same H1 H'→E (.ref C) none H')):spLand C R [.ref a,v] H1 Q E:=by
 have hV:=Same.landV s (g:=g) (kn.le (show 2 ≤ 3 by decide))
 rcases h with ⟨t,cs,rfl,hT,hL,hV1,hR⟩ | ⟨hV0,hE⟩
 ·refine ⟨a,g,w',_,rfl,hA.same s,G,kn.ext s.ext,fun t' cs' e hT' hL' => ?_,fun e => ?_⟩
  ·cases e
   rw [SqA.inj hT' (hT.same s)]; exact hR
  ·rw [hV,hV1] at e; cases e
 ·refine ⟨a,g,w',_,rfl,hA.same s,G,kn.ext s.ext,fun t' cs' e hT' hL' => ?_,fun _ H' s' => hE H' s'⟩
  exfalso
  subst e
  obtain ⟨ps,ht,hP⟩:=id hT'
  have ec:landV H1 g (.ref t') = true:=by
   unfold landV
   rw [tupOf_of ht]
   have hpl:∀ {ps:List Addr} {cs:List Pl},PlAt H1 ps cs→plsOf H1 (ps.map V.ref) = cs:=fun {ps cs} h => by
    induction h with
    | nil => rfl
    | cons r _ ih => unfold plsOf at ih ⊢; rw [List.map_cons,List.filterMap_cons,of_place r,ih]
   have hcl:∀ {ps:List Addr} {cs:List Pl},PlAt H1 ps cs→(∀ c ∈ cs,c ∈ gridF pos g)→(ps.map V.ref).all (isCell H1 g) = true:=fun {ps cs} h => by
    induction h with
    | nil => intro _; rfl
    | @cons p0 c0 l1 l2 r _ ih =>
     intro hm
     rw [List.map_cons,List.all_cons,ih fun c hc => hm c (List.mem_cons_of_mem _ hc)]
     have:isCell H1 g (.ref p0) = true:=by unfold isCell; rw [of_place r]; exact decide_eq_true (hm _ List.mem_cons_self)
     rw [this]; rfl
   show ((ps.map V.ref).all (isCell H1 g) && upP (plsOf H1 (ps.map V.ref))) = true
   rw [hcl hP fun c hc => hL'.subset hc,hpl hP]
   show upP cs' = true
   unfold upP
   exact decide_eq_true ((gridF_up pos g).sublist hL')
  rw [hV,hV0] at ec; cases ec
section
variable {P:Program} {w:World} {K:PySem.W.Frag} {mg:Str→Option Value} {base:Heap}
noncomputable abbrev nTold:List Str:=["_law_way","_law_mead_here","_law_land_here","e","_law_marks"]
theorem scTold:FnScope nTold ["_law_way","_law_mead_here","_law_land_here"] (defScope sTold):=⟨rfl,rfl,rfl,by decide +kernel,rfl,by decide +kernel,by decide +kernel⟩
theorem boot_ve:bootBuiltins "ValueError" = some (.type "ValueError"):=by decide +kernel
noncomputable def hSuite (s:Stmt):List Stmt:=match defBody s with | [.Try _ [.ExceptHandler _ _ b _] _ _ _] => b | _ => []
theorem ok_told {f g0 g1 g2 g3 cE cM cP cL:Addr} {fd d0 d1 d2 d3:FuncData} (F:Fun K "_law_told" "_law_told" sTold f fd) (T:Txt mg) (C:Cls K mg cE cM cP cL) (a0:At P w K mg base (CX1 P w) 8 "hangs_together" g0 d0 ["mead","land"] (spLand cL tlHangs)) (a1:At P w K mg base (CX1 P w) 8 "at_road" g1 d1 ["mead","land"] (spLand cL tlRoad)) (a2:At P w K mg base (CX1 P w) 8 "worth_of" g2 d2 ["mead","land"] (spLand cL tlWorth)) (a3:At P w K mg base (CX1 P w) 8 "pieces_of" g3 d3 ["mead","land"] (spLand cL tlPieces)):FnOk P w K mg base CX0 9 f fd ["_law_way","_law_mead_here","_law_land_here"] spTold:=by
 have nd:=scTold.nd
 refine F.okTry (i:=3) (Cy:=cE) scTold (fun vs H Q E h => ?_) rfl rfl C.mE rfl rfl (by decide) (fun cdv A outer s H vs Q E hr h => ?_)
 ·obtain ⟨n,a,g,w',v,rfl,_⟩:=h; rfl
 ·obtain ⟨n,a,g,w',v,rfl,hn,hA,G,kn,hq⟩:=h
  have hu:(A.deeper (envOfC "_law_told" (defScope sTold) s.heap.objs.size f cdv)).units < cLine:=by have:=hr.un; omega
  have hS:∀ (e:Addr) (oe:Obj),∃ tt,PSs ((cxOf CX0 P w K mg base nTold "_law_told" (defScope sTold) f cdv A outer s H E).nox.within e oe) (hSuite sTold) tt ∧
    ∀ H',oe.cls = .ref cL→(∀ H2,Same H' H2→Q (.str "none") H2)→tt { nx:=fun _ _ => False,rt:=Q } [none,none,none,some (.ref e),none] H':=fun e oe => by
   refine ⟨_,pss_cons (ps_set (i:=4) nd rfl (Or.inl rfl) (pe_lst (pa_k (pe_callB (call_isinstX C.d) rfl T.isinstance boot_isinstance (pa_v (pv 3) (pa_v (pe_glob (v:=.ref cL) rfl C.mL rfl) pa_nil)))
     (pa_k (pe_callB (call_isinstX C.d) rfl T.isinstance boot_isinstance (pa_v (pv 3) (pa_v (pe_glob (v:=.ref cM) rfl C.mM rfl) pa_nil))) pa_nil)))) <|
    pss_cons (ps_set (i:=4) nd rfl (Or.inl rfl) (pe_op op_cat (pv 4) (pe_lst (pa_k (pe_callB (call_isinstX C.d) rfl T.isinstance boot_isinstance (pa_v (pv 3) (pa_v (pe_glob (v:=.ref cP) rfl C.mP rfl) pa_nil)))
     (pa_k (pe_callB (call_isinstX C.d) rfl T.isinstance boot_isinstance (pa_v (pv 3) (pa_v (pe_bltn (v:=.ty "ValueError") rfl C.mV boot_ve rfl) pa_nil))) pa_nil))))) <|
    pss_one (ps_ret (pe_ifExp (pt_cmpR (op_eqB hu) (pv 4) (pe_lst (pa_c pe_bl (pa_c pe_bl (pa_c pe_bl (pa_c pe_bl pa_nil))))) (nomark _)) pe_str pe_str)),fun H' hc qq => ?_⟩
   refine ⟨_,rfl,hc,.inl ⟨cL,true,rfl,C.k1,?_⟩⟩
   refine ⟨_,rfl,hc,.inl ⟨cM,false,rfl,C.k2,?_⟩⟩
   refine ⟨by show 2 ≤ sizeLine; decide,fun l hl => ?_⟩
   have s1:=same_upd (o:=.lst [.bl true,.bl false]) hl
   refine ⟨_,rfl,_,rfl,hc,.inl ⟨cP,false,rfl,C.k3,?_⟩⟩
   refine ⟨_,rfl,hc,.inr ⟨"ValueError",true,rfl,C.k4,?_⟩⟩
   refine ⟨by show 2 ≤ sizeLine; decide,fun l2 hl2 => ?_⟩
   have s2:=same_upd (o:=.lst [.bl false,.bl true]) hl2
   refine ⟨l,l2,_,_,rfl,rfl,s2 _ _ upd_same,upd_same,by show 2 + 2 ≤ sizeLine; decide,fun l3 hl3 => ?_⟩
   have s3:=same_upd (o:=.lst ([.bl true,.bl false] ++ [.bl false,.bl true])) hl3
   refine ⟨_,rfl,by show 4 ≤ sizeLine; decide,fun l4 hl4 => ?_⟩
   have s4:=same_upd (o:=.lst [.bl true,.bl false,.bl false,.bl true]) hl4
   refine ⟨l3,l4,[true,false,false,true],rfl,rfl,s4 _ _ upd_same,upd_same,_,rfl,iteT ?_⟩
   exact qq _ (((s1.trans s2).trans s3).trans s4)
  refine ⟨fun cls _ H' => cls = .ref cL∧∀ H2,Same H' H2→Q (.str "none") H2,_,fun e oe => (hS e oe).choose,pss_one (ps_ret (pe_callEX pass_lands (pe_ix ix_list (pe_lst (pa_v (pe_glob (v:=.ref g0) rfl a0.nm rfl) (pa_v (pe_glob (v:=.ref g1) rfl a1.nm rfl) (pa_v (pe_glob (v:=.ref g2) rfl a2.nm rfl) (pa_v (pe_glob (v:=.ref g3) rfl a3.nm rfl) pa_nil))))) (pv 0) (fun _ _ => rfl)) (pa_v (pv 1) (pa_v (pv 2) pa_nil)))),fun e oe => (hS e oe).choose_spec.1,?_,?_,?_⟩
  ·refine ⟨by show 4 ≤ sizeLine; decide,fun l hl => ?_⟩
   have s1:=same_upd (o:=.lst [.ref g0,.ref g1,.ref g2,.ref g3]) hl
   have both:∀ R:Hp→Grid→Addr→List Pl→VK→Prop,R = tlN n→(∃ t cs,v = .ref t∧SqA H t cs∧LandOf g cs∧landV H g v = true∧R (upd H l (.lst [.ref g0,.ref g1,.ref g2,.ref g3])) g t cs Q) ∨ (landV H g v = false∧∀ H',Same (upd H l (.lst [.ref g0,.ref g1,.ref g2,.ref g3])) H'→(fun (cls:Value) (_:Option Addr) (H':Hp) => cls = .ref cL∧∀ H2,Same H' H2→Q (.str "none") H2) (.ref cL) none H'):=fun R e => by
    subst e
    rcases hq with ⟨t,cs,h1,h2,h3,h4,h5⟩ | ⟨h1,h2⟩
    ·exact .inl ⟨t,cs,h1,h2,h3,h4,h5.same s1⟩
    ·exact .inr ⟨h1,fun H' s' => ⟨rfl,fun H2 s2 => h2 H2 ((s1.trans s').trans s2)⟩⟩
   match n,hn,both with
   | 0,_,both => exact ⟨_,rfl,l,_,_,_,rfl,rfl,SqL.of upd_same,atI_nat (j:=0) rfl,g0,rfl,a0.kp,_,rfl,_,rfl,8,d0,_,_,a0.ok,hr,a0.bd,land_call hA G kn s1 (both _ rfl)⟩
   | 1,_,both => exact ⟨_,rfl,l,_,_,_,rfl,rfl,SqL.of upd_same,atI_nat (j:=1) rfl,g1,rfl,a1.kp,_,rfl,_,rfl,8,d1,_,_,a1.ok,hr,a1.bd,land_call hA G kn s1 (both _ rfl)⟩
   | 2,_,both => exact ⟨_,rfl,l,_,_,_,rfl,rfl,SqL.of upd_same,atI_nat (j:=2) rfl,g2,rfl,a2.kp,_,rfl,_,rfl,8,d2,_,_,a2.ok,hr,a2.bd,land_call hA G kn s1 (both _ rfl)⟩
   | 3,_,both => exact ⟨_,rfl,l,_,_,_,rfl,rfl,SqL.of upd_same,atI_nat (j:=3) rfl,g3,rfl,a3.kp,_,rfl,_,rfl,8,d3,_,_,a3.ok,hr,a3.bd,land_call hA G kn s1 (both _ rfl)⟩
  ·rintro cls H' ⟨rfl,_⟩
   exact C.x
  ·rintro e oe cls H' hc ⟨rfl,hq⟩
   exact (hS e oe).choose_spec.2 H' hc hq
end
end M43
namespace Wlk
open PySem PyProof.Rows Srt Cyc Grd L2
noncomputable def unR (ks:List (List Int)):List Pl:=ks.map fun k => (k.getD 0 0,k.getD 1 0)
theorem unR_rows (cs:List Pl):unR (rowsP cs) = cs:=by
 unfold unR rowsP
 rw [List.map_map]
 conv => rhs; rw [← List.map_id cs]
 rfl
theorem sorted_pieces {cs:List Pl} {zs ys zs':List (Addr × List Pl)} (h1:∀ z ∈ zs,∃ c ∈ cs,Piece cs c z.2) (h2:∀ c ∈ cs,∃ z ∈ zs,Piece cs c z.2) (hy:∀ y ∈ ys,y ∈ zs) (hz:∀ z ∈ zs,∃ y ∈ ys,y.2 = z.2) (nd:(ys.map (·.2)).Nodup) (so:SortedP ys zs') :
  (zs'.map (·.2)).Pairwise (fun P R => HT.lexLt (fl P) (fl R) = true)∧(∀ P ∈ zs'.map (·.2),∃ c ∈ cs,Piece cs c P)∧∀ c ∈ cs,∃ P ∈ zs'.map (·.2),Piece cs c P:=by
 have pm:(zs'.map (·.2)).Perm (ys.map (·.2)):=so.1.map (·.2)
 have nd':(zs'.map (·.2)).Nodup:=pm.nodup_iff.mpr nd
 refine ⟨?_,fun P hP => ?_,fun c hc => ?_⟩
 ·rw [List.pairwise_map]
  have n2:zs'.Pairwise fun a b => a.2 ≠ b.2:=List.pairwise_map.mp nd'
  refine (so.2.and n2).imp fun {a b} h => ?_
  cases z:HT.lexLt (fl a.2) (fl b.2) with
  | true => rfl
  | false => exact absurd (fl_inj (lex_tot z h.1)) h.2
 ·obtain ⟨y,hy',rfl⟩:=List.mem_map.mp (pm.mem_iff.mp hP)
  exact h1 y (hy y hy')
 ·obtain ⟨z,hz',pz⟩:=h2 c hc
  obtain ⟨y,hy',e⟩:=hz z hz'
  exact ⟨z.2,pm.mem_iff.mpr (List.mem_map.mpr ⟨y,hy',e⟩),pz⟩
end Wlk
namespace M43
open PySem L2 PyProof.Rows Grd Wlk Cyc Srt Stb
noncomputable abbrev sRight:Stmt:=top 54
noncomputable abbrev nRt:List Str:=["_law_mead_here","_law_thing_here","_law_good_here","_law_answer","_law_due","_law_pieces","_law_lap","_law_told_here"]
theorem scRight:FnScope nRt ["_law_mead_here","_law_thing_here"] (defScope sRight):=⟨rfl,rfl,rfl,by decide +kernel,rfl,by decide +kernel,by decide +kernel⟩
section
variable {P:Program} {w:World} {K:PySem.W.Frag} {mg:Str→Option Value} {base:Heap}
noncomputable abbrev cxR (P:Program) (w:World) (K:PySem.W.Frag) (mg:Str→Option Value) (base:Heap) (f:Addr) (cdv:Value) (A:Around) (outer:List Env) (s:Shared) (H:Hp) (E:XK):Cx:=(cxOf CX0 P w K mg base nRt "_law_right" (defScope sRight) f cdv A outer s H E).nox
variable {f:Addr} {cdv:Value} {A:Around} {outer:List Env} {s:Shared} {H0:Hp} {E:XK}
theorem ndRp:(["_law_place","_law_thing_here"]:List Str).Nodup:=by decide +kernel
noncomputable def ifBody (s:Stmt):List Stmt:=match s with | .If _ b _ _ => b | _ => []
theorem right_pcs {g1:Addr} {d1:FuncData} (hr:Room 2 (cxR P w K mg base f cdv A outer s H0 E).A) (T2:Txt2 mg) (a1:At P w K mg base CX0 2 "_law_piece" g1 d1 ["_law_land_here","_law_place"] spLPiece) :
  ∃ tt,PS (cxR P w K mg base f cdv A outer s H0 E) ((ifBody ((defBody sRight).getD 3 pas)).getD 0 pas) tt∧∀ (D:Ends) (a t:Addr) (cs:List Pl) (o2 o3 o4 o5 o6 o7:Option V) (H:Hp),SqA H t cs→cs.length ≤ 10→cs.Nodup →
  (∀ lp L H',Same H H'→WkL H' lp L→L.length ≤ 10→L.Pairwise (fun P R => HT.lexLt (fl P) (fl R) = true)→(∀ P ∈ L,∃ c ∈ cs,Piece cs c P)→(∀ c ∈ cs,∃ P ∈ L,Piece cs c P)→D.nx [some (.ref a),some (.ref t),o2,o3,o4,some (.ref lp),o6,o7] H') →
  tt D [some (.ref a),some (.ref t),o2,o3,o4,o5,o6,o7] H:=by
 have nd:=scRight.nd
 have hu8:(cxR P w K mg base f cdv A outer s H0 E).A.units + 8 < cLine:=by have:=hr.un; omega
 have hu2:(cxR P w K mg base f cdv A outer s H0 E).A.units + 2 < cLine:=by omega
 refine ⟨_,ps_set (i:=5) nd rfl (Or.inl rfl) (pe_callB (call_sortedKN (hf:=Gs.hN) rfl hu2) rfl T2.sorted boot_sorted (pa_k (pe_callTy (call_setLK (kk:=Gs.kkN P w) (Pz:=fun H z => ∃ cs,z.2 = rowsP cs∧SqA H z.1 cs) [] rfl hu8 (fun I h => lift_N I h)) rfl T2.set boot_set (pa_lc (pe_comp1 (defScope sRight).names nRt ["_law_place"] [("_law_thing_here",1)] rfl (pi_tup (pv 1)) rfl rfl rfl (by decide +kernel)
  (fun Z => pg_name (i:=0) ndRp rfl (Or.inl rfl)) (fun Z => pts_nil) (fun Z => pe_call a1.ok hr rfl a1.nm a1.kp a1.bd .nil pass0 (pa_v (pv 1) (pa_v (pv 0) pa_nil)))) pa_nil)) pa_nil)),?_⟩
 intro D a t cs o2 o3 o4 o5 o6 o7 H hT h10 hnd q
 obtain ⟨ts,ht,hP⟩:=id hT
 have hts:ts.length = cs.length:=Paired.length hP
 refine ⟨_,rfl,t,rfl,⟨_,SqT.of ht⟩,fun Z l hl => ?_⟩
 refine for_tup (K:=K) (a:=t) (xs:=ts.map V.ref) (fun i σ H' => (∃ o,σ = [o,some (.ref t)])∧Same H H'∧∃ zs:List (Addr × List Pl),H' l = some (.lst (zs.map fun z => V.ref z.1))∧zs.length = i∧(∀ z ∈ zs,SqA H' z.1 z.2∧∃ c ∈ cs,Piece cs c z.2)∧∀ c ∈ cs.take i,∃ z ∈ zs,Piece cs c z.2)
  ⟨⟨_,rfl⟩,same_upd hl,[],by rw [upd_same]; rfl,rfl,(fun z hz => by cases hz),(fun c hc => by cases hc)⟩ (fun i σ H' _ h => SqT.of (h.2.1 _ _ ht)) ?_ ?_
 ·rintro i x σ H' hx ⟨⟨o,rfl⟩,hs,zs,hz,hzl,hzz,hzc⟩
  obtain ⟨p,hp,rfl⟩:=getR hx
  obtain ⟨c,hc,he⟩:=hP.at hp
  have hi:i < cs.length:=(List.getElem?_eq_some_iff.mp hc).1
  refine body_name ?_
  refine ⟨_,rfl,_,rfl,t,p,cs,c,rfl,hT.same hs,h10,hnd,hs _ _ he,List.mem_of_getElem? hc,fun t' N H2 s2 hN pN => ?_⟩
  have hz2:=s2 _ _ hz
  refine ⟨_,hz2,small1000 (by rw [List.length_map]; omega),⟨_,rfl⟩,fun b' u e' => ?_,zs ++ [(t',N)],by rw [upd_same,List.map_append]; rfl,by rw [List.length_append,hzl]; rfl,fun z hz' => ?_,fun d hd => ?_⟩
  ·rw [upd_ne (ne_of_none e' hl)]; exact s2 _ _ (hs _ _ e')
  ·rcases List.mem_append.mp hz' with y | y
   ·obtain ⟨y1,y2⟩:=hzz z y
    exact ⟨sqPut hz2 (y1.same s2),y2⟩
   ·rw [List.mem_singleton.mp y]
    exact ⟨sqPut hz2 hN,c,List.mem_of_getElem? hc,pN⟩
  ·rw [List.take_succ,hc] at hd
   rcases List.mem_append.mp hd with y | y
   ·obtain ⟨z,z1,z2⟩:=hzc d y
    exact ⟨z,List.mem_append_left _ z1,z2⟩
   ·have:d = c:=by simpa using y
    rw [this]
    exact ⟨_,List.mem_append_right _ List.mem_cons_self,pN⟩
 ·rintro σ H' ⟨_,hs,zs,hz,hzl,hzz,hzc⟩
  rw [List.length_map,hts] at hzl hzc
  rw [List.take_of_length_le (Nat.le_refl _)] at hzc
  refine ⟨l,zs.map fun z => (z.1,rowsP z.2),zs.map fun z => rowsP z.2,rfl,SqL.of (by rw [hz,List.map_map]; rfl),fun z hz' => ?_,by rw [List.length_map]; omega,fun z hz' => ?_,fun l2 xs hl2 ded => ?_⟩
  ·obtain ⟨y,hy,rfl⟩:=List.mem_map.mp hz'
   exact ⟨y.2,rfl,(hzz y hy).1⟩
  ·obtain ⟨y,hy,rfl⟩:=List.mem_map.mp hz'
   exact List.mem_map_of_mem hy
  have hxz:∀ x ∈ xs,∃ z ∈ zs,x = (rowsP z.2,z.1):=fun x hx => by
   obtain ⟨z,hz',e⟩:=List.mem_map.mp (ded.of x hx)
   refine ⟨z,hz',?_⟩
   injection e with e1 e2
   exact Prod.ext e2.symm e1.symm
  have exs:xs = (xs.map fun x => (x.2,unR x.1)).map fun y => (rowsP y.2,y.1):=by
   rw [List.map_map]
   conv => lhs; rw [← List.map_id xs]
   refine List.map_congr_left fun x hx => ?_
   obtain ⟨z,_,rfl⟩:=hxz x hx
   show (rowsP z.2,z.1) = (rowsP (unR (rowsP z.2)),z.1)
   rw [unR_rows]
  generalize hys:(xs.map fun x => (x.2,unR x.1)) = ys at exs
  have hyz:∀ y ∈ ys,y ∈ zs:=fun y hy => by
   rw [← hys] at hy
   obtain ⟨x,hx,rfl⟩:=List.mem_map.mp hy
   obtain ⟨z,hz',rfl⟩:=hxz x hx
   show (z.1,unR (rowsP z.2)) ∈ zs
   rw [unR_rows]; exact hz'
  have hzy:∀ z ∈ zs,∃ y ∈ ys,y.2 = z.2:=fun z hz' => by
   obtain ⟨x,hx,e⟩:=List.mem_map.mp (ded.all (z.1,rowsP z.2) (List.mem_map.mpr ⟨z,hz',rfl⟩))
   refine ⟨(x.2,unR x.1),by rw [← hys]; exact List.mem_map_of_mem hx,?_⟩
   show unR x.1 = z.2
   rw [e]; exact unR_rows _
  have ndy:(ys.map (·.2)).Nodup:=by
   have h:=ded.nd
   rw [exs,List.map_map] at h
   have h':(ys.map fun y => rowsP y.2).Nodup:=h
   rw [List.nodup_iff_pairwise_ne,List.pairwise_map] at h' ⊢
   exact h'.imp fun {a b} hne e => hne (by rw [e])
  have hyl:ys.length ≤ 10:=by
   have h1:=Cyc.sub_len (xs:=ys.map (·.2)) (ys:=zs.map (·.2)) ndy fun k hk => by
    obtain ⟨y,hy,rfl⟩:=List.mem_map.mp hk
    exact List.mem_map_of_mem (hyz y hy)
   rw [List.length_map,List.length_map] at h1
   omega
  rw [exs]
  have s2:=same_upd (o:=setK (Gs.kkN P w).hs w l2 (ys.map fun y => (rowsP y.2,y.1))) hl2
  refine ⟨l2,ys,rfl,upd_same,fun y hy => ?_,by omega,fun l3 zs' hl3 so => ?_⟩
  ·obtain ⟨y1,c,_,pc⟩:=hzz y (hyz y hy)
   exact ⟨y1.same s2,fun e => by have:=pc.st; rw [e] at this; cases this⟩
  have s3:=same_upd (o:=.lst (zs'.map fun z => V.ref z.1)) hl3
  obtain ⟨k1,k2,k3⟩:=sorted_pieces (fun z hz' => (hzz z hz').2) hzc hyz hzy ndy so
  refine q l3 (zs'.map (·.2)) _ ((hs.trans s2).trans s3) ⟨zs'.map (·.1),by rw [upd_same,List.map_map]; rfl,?_⟩ (by rw [List.length_map,so.1.length_eq]; exact hyl) k1 k2 k3
  have key:∀ ws:List (Addr × List Pl),(∀ z ∈ ws,z ∈ zs)→∀ H9,Same H' H9→WkP H9 (ws.map (·.1)) (ws.map (·.2)):=fun ws => by
   induction ws with
   | nil => intro _ _ _; exact .nil
   | cons z ws ih =>
    intro hw H9 s9
    exact .cons ((hzz z (hw z List.mem_cons_self)).1.same s9) (ih (fun y hy => hw y (List.mem_cons_of_mem _ hy)) H9 s9)
  exact key zs' (fun z hz' => hyz z (so.1.mem_iff.mp hz')) _ (s2.trans s3)
end
end M43
namespace M43
open PySem L2 PyProof.Rows Grd Wlk Cyc Srt Stb
noncomputable def spRight:Sp:=fun vs H Q _ => ∃ a g w v,vs = [.ref a,v]∧GridAt H a g∧Good g w∧Kn H 3 v∧∀ H',Same H H'→Q (.bl true) H'
noncomputable def ToldG (H0 H:Hp) (g:Grid) (cs:List Pl) (i:Nat) (xs:List V):Prop:=∃ b l3 ps,xs = ([.bl b,.bl (atRoad g cs),.int (worthP g cs),.ref l3]:List V).take i∧(1 ≤ i→HangsIs cs b)∧(4 ≤ i→H0 l3 = none∧WkL H l3 ps∧PcsO cs cs ps)
noncomputable def nones:List V:=[.str "none",.str "none",.str "none",.str "none"]
theorem WkL.same {H H':Hp} {l:Addr} {o:List (List Pl)} (h:WkL H l o) (s:Same H H'):WkL H' l o:=let ⟨ws,h1,h2⟩:=h; ⟨ws,s _ _ h1,Paired.mapP h2 fun _ _ z => z.same s⟩
theorem sameP {H:Hp} {p q:Addr} {c:Pl} (h1:PlA H p c) (h2:PlA H q c):SameV H 1 (.ref p) (.ref q):=.inr ⟨p,q,_,_,rfl,rfl,.inr ⟨h1,h2⟩,by simp,.cons (SameV.int 0 _) (.cons (SameV.int 0 _) .nil)⟩
theorem sameS {H:Hp} {p q:Addr} {cs:List Pl} (h1:SqA H p cs) (h2:SqA H q cs) (hz:cs.length ≤ 1000):SameV H 2 (.ref p) (.ref q):=by
 obtain ⟨ps,a1,b1⟩:=h1
 obtain ⟨qs,a2,b2⟩:=h2
 have l1:ps.length = cs.length:=Paired.length b1
 refine .inr ⟨p,q,_,_,rfl,rfl,.inr ⟨a1,a2⟩,by rw [List.length_map]; omega,?_⟩
 clear a1 a2 l1 hz
 induction b1 generalizing qs with
 | nil => cases b2; exact .nil
 | cons r _ ih => cases b2 with | cons r' t' => exact .cons (sameP r r') (ih _ t')
theorem sameW {H:Hp} {p q:Addr} {ps:List (List Pl)} (h1:WkL H p ps) (h2:WkL H q ps) (hz:ps.length ≤ 1000) (hc:∀ c ∈ ps,c.length ≤ 1000):SameV H 3 (.ref p) (.ref q):=by
 obtain ⟨us,a1,b1⟩:=h1
 obtain ⟨ws,a2,b2⟩:=h2
 have l1:us.length = ps.length:=Paired.length b1
 refine .inr ⟨p,q,_,_,rfl,rfl,.inl ⟨a1,a2⟩,by rw [List.length_map]; omega,?_⟩
 clear a1 a2 l1 hz
 unfold WkP at b1 b2
 induction b1 generalizing ws with
 | nil => cases b2; exact .nil
 | cons r _ ih => cases b2 with | cons r' t' => exact .cons (sameS r r' (hc _ List.mem_cons_self)) (ih (fun c hc' => hc c (List.mem_cons_of_mem _ hc')) _ t')
section
variable {P:Program} {w:World} {K:PySem.W.Frag} {mg:Str→Option Value} {base:Heap}
theorem ndRw:(["_law_way","_law_mead_here","_law_thing_here"]:List Str).Nodup:=by decide +kernel
theorem ok_right {f gG gI gP gR gW gT gS:Addr} {fd dG dI dP dR dW dT dS:FuncData} (F:Fun K "_law_right" "_law_right" sRight f fd) (T:Txt mg) (T2:Txt2 mg)
    (aG:At P w K mg base CX0 2 "_law_good" gG dG ["_law_mead_here","_law_thing_here"] spIsLand) (aI:At P w K mg base CX0 6 "is_land" gI dI ["mead","thing"] spIsLand) (aP:At P w K mg base CX0 2 "_law_piece" gP dP ["_law_land_here","_law_place"] spLPiece)
    (aR:At P w K mg base CX0 2 "_law_at_road" gR dR ["_law_mead_here","_law_land_here"] spLRoad) (aW:At P w K mg base CX0 1 "_law_worth" gW dW ["_law_mead_here","_law_land_here"] spWTogT) (aT:At P w K mg base CX0 9 "_law_told" gT dT ["_law_way","_law_mead_here","_law_land_here"] spTold)
    (aS:At P w K mg base CX0 5 "_law_same" gS dS ["_law_thing_here","_law_due"] (spSame 4)):FnOk P w K mg base CX0 10 f fd ["_law_mead_here","_law_thing_here"] spRight:=by
  refine F.ok scRight (fun vs H Q E h => ?_) (fun cdv A outer s H vs Q E hr h => ?_)
  · obtain ⟨a,g,w',v,rfl,_⟩:=h; rfl
  · obtain ⟨a,g,w',v,rfl,hA,G,kn,q⟩:=h
    have nd:=scRight.nd
    obtain ⟨tp,hp,jp⟩:=right_pcs (P:=P) (w:=w) (K:=K) (mg:=mg) (base:=base) (f:=f) (cdv:=cdv) (A:=A) (outer:=outer) (s:=s) (H0:=H) (E:=E) (hr.mono (by decide)) T2 aP
    refine ⟨_,pss_cons (ps_par (i:=2) (j:=3) rfl nd rfl rfl (by decide) rfl rfl (pa_k (pe_call aG.ok (hr.mono (by decide)) rfl aG.nm aG.kp aG.bd .nil pass0 (pa_v (pv 0) (pa_v (pv 1) pa_nil))) (pa_k (pe_call aI.ok (hr.mono (by decide)) rfl aI.nm aI.kp aI.bd .nil pass0 (pa_v (pv 0) (pa_v (pv 1) pa_nil))) pa_nil)) rfl) <|
      pss_cons (ps_if (PW.pt (pw_or (pt_not (pt_val (pe_callB call_isinst rfl T.isinstance boot_isinstance (pa_v (pv 3) (pa_v (pe_bltn (v:=.ty "bool") rfl T.bool boot_bool rfl) pa_nil))))) (pw_or1 (pt_cmpR op_ne (pv 3) (pv 2) (nomark _))))) (pss_one (ps_ret pe_bl)) pss_nil) <|
      pss_cons (ps_set (i:=4) nd rfl (Or.inl rfl) (pe_op op_rep (pe_lst (pa_c pe_str pa_nil)) pe_int)) <|
      pss_cons (ps_if (pt_val (pv 2)) (pss_cons hp (pss_one (ps_set (i:=4) nd rfl (Or.inl rfl) (pe_lst (pa_m (pe_cmpR op_eq (pe_callB call_len_seq rfl T.len PySem.boot_len (pa_v (pv 5) pa_nil)) pe_int (nomark _)) (pa_k (pe_call aR.ok (hr.mono (by decide)) rfl aR.nm aR.kp aR.bd .nil pass0 (pa_v (pv 0) (pa_v (pv 1) pa_nil))) (pa_k (pe_call aW.ok (hr.mono (by decide)) rfl aW.nm aW.kp aW.bd .nil pass0 (pa_v (pv 0) (pa_v (pv 1) pa_nil))) (pa_v (pv 5) pa_nil)))))))) pss_nil) <|
      pss_cons (ps_for PassesOwn.never rfl (pi_range1 rfl T2.range (pa_c pe_int pa_nil)) (pg_name (i:=6) nd rfl (Or.inl rfl))
        (pss_cons (ps_setC1 (i:=7) (defScope sRight).names nRt ["_law_way"] [("_law_mead_here",0),("_law_thing_here",1)] rfl nd rfl rfl (pi_range1 rfl T2.range (pa_c pe_int pa_nil)) rfl rfl rfl (by decide +kernel)
            (fun Z => pg_name (i:=0) ndRw rfl (Or.inl rfl)) (fun Z => pts_nil) (fun Z => pe_call aT.ok hr rfl aT.nm aT.kp aT.bd .nil pass0 (pa_v (pv 0) (pa_v (pv 1) (pa_v (pv 2) pa_nil))))) <|
         pss_cons (ps_if (pt_not (pt_val (pe_call aS.ok (hr.mono (by decide)) rfl aS.nm aS.kp aS.bd .nil pass0 (pa_v (pv 7) (pa_v (pv 4) pa_nil))))) (pss_one (ps_ret pe_bl)) pss_nil) <|
         pss_one (ps_if (pt_val (pv 2)) (pss_one (ps_expr (pe_bm PySem.F.plainAttrs_list PySem.F.slot_list_append PySem.F.type_list_append mt_append (pe_ix ix_list (pv 7) pe_int (fun _ _ => rfl)) (pa_v (pv 1) pa_nil)))) pss_nil))) <|
      pss_one (ps_ret pe_bl),?_⟩
    have k2:=kn.le (show 2 ≤ 3 by decide)
    refine ⟨_,rfl,_,rfl,a,g,w',v,rfl,hA,G,kn,fun H1 s1 => ?_⟩
    refine ⟨_,rfl,_,rfl,a,g,w',v,rfl,hA.same s1,G,kn.ext s1.ext,fun H2 s2 => ?_⟩
    have s12:=s1.trans s2
    rw [Same.landV s1 k2]
    refine ⟨_,_,rfl,?_⟩
    refine ⟨_,rfl,_,"bool",.type "bool",true,rfl,.bl _,kit_same _,_,rfl,iteF ?_⟩
    refine ⟨_,rfl,_,rfl,rfl,_,rfl,iteNS rfl ?_⟩
    refine ⟨by show 1 ≤ sizeLine; decide,fun l1 hl1 => ?_⟩
    have s3:=same_upd (o:=.lst [.str "none"]) hl1
    refine ⟨l1,4,_,rfl,rfl,upd_same,by decide,by decide,by show 1 * 4 ≤ sizeLine; decide,fun ld hld => ?_⟩
    have s4:=same_upd (o:=.lst (List.replicate (4:Int).toNat [V.str "none"]).flatten) hld
    have s14:=(s12.trans s3).trans s4
    have hd0:(upd (upd H2 l1 (.lst [.str "none"])) ld (.lst (List.replicate (4:Int).toNat [V.str "none"]).flatten)) ld = some (.lst nones):=upd_same
    generalize upd (upd H2 l1 (.lst [.str "none"])) ld (.lst (List.replicate (4:Int).toNat [V.str "none"]).flatten) = H4 at s14 hd0 ⊢
    cases hV:landV H g v with
    | false =>
      refine ⟨_,rfl,_,rfl,iteF ?_⟩
      refine ⟨2,rfl,by decide,by decide,?_⟩
      refine for_range (lo:=0) (n:=2) (fun i σ H' => (∃ o5 o6 o7,σ = [some (.ref a),some v,some (.bl false),some (.bl false),some (.ref ld),o5,o6,o7])∧Same H4 H') ⟨⟨_,_,_,rfl⟩,Same.refl _⟩ ?_ ?_
      · rintro i σ H' hi ⟨⟨o5,o6,o7,rfl⟩,hs⟩
        have sA:=s14.trans hs
        refine ⟨4,rfl,by decide,by decide,fun Z lt hlt => ?_⟩
        refine for_range (lo:=0) (n:=4) (fun j σ H5 => (∃ o,σ = [o,some (.ref a),some v])∧Same H' H5∧H5 lt = some (.lst (nones.take j))) ⟨⟨_,rfl⟩,same_upd hlt,by rw [upd_same]; rfl⟩ ?_ ?_
        · rintro j σ H5 hj ⟨⟨o,rfl⟩,hs5,ht5⟩
          have sB:=sA.trans hs5
          refine body_name ?_
          refine ⟨_,rfl,_,rfl,_,rfl,j,a,g,w',v,by show [V.int (0 + (j:Int)),V.ref a,v] = _; rw [Int.zero_add],hj,hA.same sB,G,kn.ext sB.ext,.inr ⟨by rw [Same.landV sB k2]; exact hV,fun H6 s6 => ?_⟩⟩
          refine ⟨_,s6 _ _ ht5,small1000 (by rw [List.length_take]; show min j 4 ≤ _; omega),⟨_,rfl⟩,fun b' u e' => ?_,?_⟩
          · rw [upd_ne (ne_of_none e' hlt)]; exact s6 _ _ (hs5 _ _ e')
          · rw [upd_same]
            match j,hj with
            | 0,_ => rfl
            | 1,_ => rfl
            | 2,_ => rfl
            | 3,_ => rfl
        · rintro σ H5 ⟨_,hs5,ht5⟩
          have ht5':H5 lt = some (.lst nones):=ht5
          have hd5:=hs5 _ _ (hs _ _ hd0)
          refine ⟨_,rfl,_,rfl,_,_,rfl,.inr ⟨lt,ld,_,_,rfl,rfl,.inl ⟨ht5',hd5⟩,by decide,.cons (SameV.str 3 _) (.cons (SameV.str 3 _) (.cons (SameV.str 3 _) (.cons (SameV.str 3 _) .nil)))⟩,fun H6 s6 => ⟨_,rfl,iteF ?_⟩⟩
          exact ⟨_,rfl,_,rfl,iteF ⟨⟨_,_,_,rfl⟩,(hs.trans hs5).trans s6⟩⟩
      · rintro σ H' ⟨_,hs⟩
        exact q H' (s14.trans hs)
    | true =>
      obtain ⟨t,cs,rfl,hT,hL⟩:=land_of hV
      have h10:=LandOf.len G hL
      have hup:=(gridF_up pos g).sublist hL
      refine ⟨_,rfl,_,rfl,iteT ?_⟩
      refine jp _ a t cs _ _ _ _ _ _ H4 (hT.same s14) h10 (up_nd hup) fun lp L H5 s5 hLp hL10 lup lo1 lo2 => ?_
      obtain ⟨ws,hlp,hws⟩:=id hLp
      have hwl:ws.length = L.length:=Paired.length hws
      refine ⟨_,rfl,lp,_,rfl,.inl (SqL.of hlp),rfl,?_⟩
      have sA:=s14.trans s5
      refine ⟨_,rfl,_,rfl,a,t,g,w',cs,rfl,hA.same sA,G,hT.same sA,hL,fun H6 s6 => ?_⟩
      have sB:=sA.trans s6
      refine ⟨_,rfl,_,rfl,a,t,g,w',cs,rfl,hA.same sB,G,hT.same sB,hL,fun H7 s7 => ?_⟩
      have sC:=sB.trans s7
      refine ⟨_,rfl,by show 4 ≤ sizeLine; decide,fun le hle => ?_⟩
      have elen:decide (V.int (((ws.map V.ref).length:Nat):Int) = V.int 1) = decide (L.length = 1):=by
        rw [List.length_map,hwl,decide_eq_decide]
        constructor
        · intro z; have:=V.int.inj z; omega
        · intro z; rw [z]; rfl
      rw [elen]
      have s8:=same_upd (o:=.lst [.bl (decide (L.length = 1)),.bl (atRoad g cs),.int (worthP g cs),.ref lp]) hle
      have hde:(upd H7 le (.lst [.bl (decide (L.length = 1)),.bl (atRoad g cs),.int (worthP g cs),.ref lp])) le = some (.lst [.bl (decide (L.length = 1)),.bl (atRoad g cs),.int (worthP g cs),.ref lp]):=upd_same
      have hLp8:=((hLp.same s6).same s7).same s8
      have sD:=sC.trans s8
      generalize upd H7 le (.lst [.bl (decide (L.length = 1)),.bl (atRoad g cs),.int (worthP g cs),.ref lp]) = H8 at sD hde hLp8 ⊢
      refine ⟨2,rfl,by decide,by decide,?_⟩
      refine for_range (lo:=0) (n:=2) (fun i σ H' => (∃ o6 o7,σ = [some (.ref a),some (.ref t),some (.bl true),some (.bl true),some (.ref le),some (.ref lp),o6,o7])∧Same H8 H') ⟨⟨_,_,rfl⟩,Same.refl _⟩ ?_ ?_
      · rintro i σ H' hi ⟨⟨o6,o7,rfl⟩,hs⟩
        have sE:=sD.trans hs
        refine ⟨4,rfl,by decide,by decide,fun Z lt hlt => ?_⟩
        refine for_range (lo:=0) (n:=4) (fun j σ H9 => (∃ o,σ = [o,some (.ref a),some (.ref t)])∧Same H' H9∧∃ xs,H9 lt = some (.lst xs)∧ToldG H' H9 g cs j xs) ⟨⟨_,rfl⟩,same_upd hlt,[],by rw [upd_same],false,0,[],rfl,fun h => absurd h (by decide),fun h => absurd h (by decide)⟩ ?_ ?_
        · rintro j σ H9 hj ⟨⟨o,rfl⟩,hs9,xs,ht9,b,l3,ps,rfl,hb,h4⟩
          have sF:=sE.trans hs9
          refine body_name ?_
          refine ⟨_,rfl,_,rfl,_,rfl,j,a,g,w',.ref t,by show [V.int (0 + (j:Int)),V.ref a,V.ref t] = _; rw [Int.zero_add],hj,hA.same sF,G,kn.ext sF.ext,.inl ⟨t,cs,rfl,hT.same sF,hL,by rw [Same.landV sF k2]; exact hV,?_⟩⟩
          have keep:∀ {H10:Hp} {xs':List V},Same H9 H10→Same H' (upd H10 lt (.lst xs')):=fun s10 b' u e' => by rw [upd_ne (ne_of_none e' hlt)]; exact s10 _ _ (hs9 _ _ e')
          match j,hj,ht9,hb,h4 with
          | 0,_,ht9,hb,h4 => exact fun b' H10 s10 hb' => ⟨_,s10 _ _ ht9,small1000 (by show 0 ≤ 1000; decide),⟨_,rfl⟩,keep s10,_,upd_same,b',0,[],rfl,fun _ => hb',fun h => absurd h (by decide)⟩
          | 1,_,ht9,hb,h4 => exact fun H10 s10 => ⟨_,s10 _ _ ht9,small1000 (by show 1 ≤ 1000; decide),⟨_,rfl⟩,keep s10,_,upd_same,b,0,[],rfl,fun _ => hb (by decide),fun h => absurd h (by decide)⟩
          | 2,_,ht9,hb,h4 => exact fun H10 s10 => ⟨_,s10 _ _ ht9,small1000 (by show 2 ≤ 1000; decide),⟨_,rfl⟩,keep s10,_,upd_same,b,0,[],rfl,fun _ => hb (by decide),fun h => absurd h (by decide)⟩
          | 3,_,ht9,hb,h4 =>
            intro l3' ps' H10 hl3 s10 hw hp'
            have ht10:=s10 _ _ ht9
            have hne:l3' ≠ lt:=fun z => by rw [z,ht9] at hl3; cases hl3
            obtain ⟨us,hu1,hu2⟩:=hw
            refine ⟨_,ht10,small1000 (by show 3 ≤ 1000; decide),⟨_,rfl⟩,keep s10,_,upd_same,b,l3',ps',rfl,fun _ => hb (by decide),fun _ => ⟨hs9.free hl3,⟨us,by rw [upd_ne hne]; exact hu1,?_⟩,hp'⟩⟩
            exact Paired.mapP hu2 fun _ _ z => sqPut ht10 z
        · rintro σ H9 ⟨_,hs9,xs,ht9,b,l3,ps,rfl,hb,h4⟩
          obtain ⟨n3,hw3,pc⟩:=h4 (by decide)
          have eps:ps = L:=pieces_sorted pc lup lo1 lo2
          have eb:b = decide (ps.length = 1):=hangs_pieces hup pc (hb (by decide))
          rw [eps] at hw3 eb
          subst eb
          have ht9':H9 lt = some (.lst [.bl (decide (L.length = 1)),.bl (atRoad g cs),.int (worthP g cs),.ref l3]):=ht9
          have s89:=hs.trans hs9
          have hd9:=s89 _ _ hde
          have hcl:∀ c ∈ L,c.length ≤ 1000:=fun c hc => by
            obtain ⟨d,_,pd⟩:=lo1 c hc
            have:=Cyc.sub_len (up_nd pd.up) pd.sub
            omega
          refine ⟨_,rfl,_,rfl,_,_,rfl,.inr ⟨lt,le,_,_,rfl,rfl,.inl ⟨ht9',hd9⟩,by show 4 ≤ 1000; decide,.cons (SameV.bl 3 _) (.cons (SameV.bl 3 _) (.cons (SameV.int 3 _) (.cons (sameW hw3 (hLp8.same s89) (by omega) hcl) .nil)))⟩,fun H10 s10 => ⟨_,rfl,iteF ?_⟩⟩
          refine ⟨_,rfl,_,rfl,iteT ?_⟩
          obtain ⟨us,hu1,hu2⟩:=hw3
          have hul:us.length = L.length:=Paired.length hu2
          have hu10:=s10 _ _ hu1
          refine ⟨_,rfl,lt,_,3,_,rfl,rfl,SqL.of (s10 _ _ ht9'),atI_nat (j:=3) rfl,.inl ⟨rfl,_,SqL.of hu10⟩,_,rfl,l3,_,_,rfl,rfl,hu10,small1000 (by rw [List.length_map]; omega),⟨_,_,rfl⟩,fun b' u e' => ?_⟩
          rw [upd_ne (ne_of_none (hs _ _ e') n3)]
          exact s10 _ _ (s89 _ _ e')
      · rintro σ H' ⟨_,hs⟩
        exact q H' (sD.trans hs)
end
end M43
namespace M43
open PySem L2 PyProof.Rows Grd Wlk Cyc Srt Stb
noncomputable abbrev sLaw:Stmt:=top 55
noncomputable def spLaw (K:PySem.W.Frag):Sp:=fun vs H Q _ => ∃ (a:Addr) (ns:List Int),vs = [.ref a]∧SqL K H a (ns.map V.int)∧ns.length ≤ 63∧∀ H',Q (.bl true) H'
noncomputable abbrev nLaw:List Str:=["_law_script","_law_cell_here","_law_pen_here","_law_mead_here","_law_lands","_law_things"]
theorem scLaw:FnScope nLaw ["_law_script"] (defScope sLaw):=⟨rfl,rfl,rfl,by decide +kernel,rfl,by decide +kernel,by decide +kernel⟩
noncomputable def LandAt (g:Grid) (H:Hp) (x:V):Prop:=∃ t cs,x = .ref t∧SqA H t cs∧LandOf g cs
theorem LandAt.ext {g:Grid} {H H':Hp} {x:V} (h:LandAt g H x) (e:Ext H H'):LandAt g H' x:=let ⟨t,cs,h1,h2,h3⟩:=h; ⟨t,cs,h1,SqA.ext h2 e,h3⟩
theorem LandAt.kn {g:Grid} {w:Nat} {H:Hp} {x:V} (G:Good g w) (h:LandAt g H x):KnA H x:=by
 obtain ⟨t,cs,rfl,h2,h3⟩:=h
 have:=LandOf.len G h3
 exact SqA.kn h2 (by omega)
section
variable {P:Program} {w:World} {K:PySem.W.Frag} {mg:Str→Option Value} {base:Heap}
theorem ndL1:(["_law_lap","_law_pen_here","_law_mead_here"]:List Str).Nodup:=by decide +kernel
theorem ndL2:(["_law_land_here","_law_pen_here","_law_mead_here"]:List Str).Nodup:=by decide +kernel
theorem ndL3:(["_law_thing_here","_law_mead_here"]:List Str).Nodup:=by decide +kernel
theorem ok_law {f gE gP gM gL gD gB gT gR:Addr} {fd dE dP dM dL dD dB dT dR:FuncData} (F:Fun K "law" "law" sLaw f fd) (T:Txt mg) (T2:Txt2 mg) (aE:At P w K mg base CX0 1 "_law_cell" gE dE ["_law_script","_law_k"] (spCell K)) (aP:At P w K mg base CX0 1 "_law_pen" gP dP ["_law_cell_here"] spPen)
    (aM:At P w K mg base CX0 2 "_law_mead" gM dM ["_law_pen_here","_law_most"] spMeadL) (aL:At P w K mg base CX0 1 "_law_cells" gL dL ["_law_mead_here"] (spGrid pos)) (aD:At P w K mg base CX0 2 "_law_land" gD dD ["_law_pen_here","_law_mead_here"] spLandL) (aB:At P w K mg base CX0 2 "_law_bent" gB dB ["_law_pen_here","_law_mead_here","_law_land_here"] spBent)
    (aT:At P w K mg base CX0 9 "_law_thing" gT dT ["_law_pen_here","_law_deep"] (spThing 0)) (aR:At P w K mg base CX0 10 "_law_right" gR dR ["_law_mead_here","_law_thing_here"] spRight):FnOk P w K mg base CX0 11 f fd ["_law_script"] (spLaw K):=by
  refine F.ok scLaw (fun vs H Q E h => ?_) (fun cdv A outer s H vs Q E hr h => ?_)
  · obtain ⟨a,ns,rfl,_⟩:=h; rfl
  · obtain ⟨a,ns,rfl,hS,hlen,q⟩:=h
    have nd:=scLaw.nd
    have r1:Room 1 _:=hr.mono (by decide)
    have r2:Room 2 _:=hr.mono (by decide)
    have r9:Room 9 _:=hr.mono (by decide)
    refine ⟨_,pss_cons (ps_for PassesOwn.never rfl (pi_list (pe_op op_cat (pe_lst (pa_k (pe_call aE.ok r1 rfl aE.nm aE.kp aE.bd .nil pass0 (pa_v (pv 0) (pa_c pe_int pa_nil))) pa_nil)) (pe_slice sl_list (pv 0) (po_some pe_int) (po_some pe_int)))) (pg_name (i:=1) nd rfl (Or.inl rfl))
      (pss_cons (ps_set (i:=2) nd rfl (Or.inr rfl) (pe_call aP.ok r1 rfl aP.nm aP.kp aP.bd .nil pass0 (pa_v (pv 1) pa_nil))) <|
       pss_cons (ps_set (i:=3) nd rfl (Or.inr rfl) (pe_call aM.ok r2 rfl aM.nm aM.kp aM.bd .nil pass0 (pa_v (pv 2) (pa_c pe_int pa_nil)))) <|
       pss_cons (ps_set (i:=4) nd rfl (Or.inl rfl) (pe_op op_cat (pe_comp1 (defScope sLaw).names nLaw ["_law_lap"] [("_law_pen_here",2),("_law_mead_here",3)] rfl (pi_range1 rfl T2.range (pa_c pe_int pa_nil)) rfl rfl rfl (by decide +kernel)
           (fun Z => pg_name (i:=0) ndL1 rfl (Or.inl rfl)) (fun Z => pts_nil) (fun Z => pe_call aD.ok r2 rfl aD.nm aD.kp aD.bd .nil pass0 (pa_v (pv 1) (pa_v (pv 2) pa_nil)))) (pe_lst (pa_t (pe_tup pa_nil) (pa_k (pe_callTy call_tuple_of rfl T.tuple boot_tuple (pa_k (pe_call aL.ok r1 rfl aL.nm aL.kp aL.bd .nil pass0 (pa_v (pv 3) pa_nil)) pa_nil)) pa_nil))))) <|
       pss_cons (ps_setC1 (i:=5) (defScope sLaw).names nLaw ["_law_land_here"] [("_law_pen_here",2),("_law_mead_here",3)] rfl nd rfl rfl (pi_list (pv 4)) rfl rfl rfl (by decide +kernel)
           (fun Z => pg_name (i:=0) ndL2 rfl (Or.inl rfl)) (fun Z => pts_nil) (fun Z => pe_call aB.ok r2 rfl aB.nm aB.kp aB.bd .nil pass0 (pa_v (pv 1) (pa_v (pv 2) (pa_v (pv 0) pa_nil))))) <|
       pss_cons (ps_set (i:=5) nd rfl (Or.inl rfl) (pe_op op_cat (pe_op op_cat (pv 4) (pv 5)) (pe_lst (pa_k (pe_call aT.ok r9 rfl aT.nm aT.kp aT.bd .nil pass0 (pa_v (pv 2) (pa_c pe_int pa_nil))) pa_nil)))) <|
       pss_one (ps_if (pt_not (pt_val (pe_callB (call_all rfl) rfl T.all boot_all (pa_lc (pe_comp1 (defScope sLaw).names nLaw ["_law_thing_here"] [("_law_mead_here",3)] rfl (pi_list (pv 5)) rfl rfl rfl (by decide +kernel)
           (fun Z => pg_name (i:=0) ndL3 rfl (Or.inl rfl)) (fun Z => pts_nil) (fun Z => pe_call aR.ok hr rfl aR.nm aR.kp aR.bd .nil pass0 (pa_v (pv 1) (pa_v (pv 0) pa_nil)))) pa_nil)))) (pss_one (ps_ret pe_bl)) pss_nil))) <|
      pss_one (ps_ret pe_bl),?_⟩
    refine ⟨_,rfl,a,ns,0,rfl,hS,by decide,fun c0 => ?_⟩
    refine ⟨by show 1 ≤ sizeLine; decide,fun l0 hl0 => ?_⟩
    have s0:=same_upd (o:=.lst [.int c0]) hl0
    refine ⟨_,rfl,_,rfl,_,rfl,a,_,rfl,s0.seq hS,fun l1 hl1 => ?_⟩
    have s1:=same_upd (o:=.lst (cutV (ns.map V.int) (some 1) (some 4))) hl1
    have hcl:=cutV_length (ns.map V.int) (some 1) (some 4)
    rw [List.length_map] at hcl
    refine ⟨l0,l1,_,_,rfl,rfl,s1 _ _ upd_same,upd_same,by rw [sizeLine_eq]; show 1 + _ ≤ _; omega,fun lc hlc => ?_⟩
    have hcc:(upd (upd (upd H l0 (.lst [.int c0])) l1 (.lst (cutV (ns.map V.int) (some 1) (some 4)))) lc (.lst ([.int c0] ++ cutV (ns.map V.int) (some 1) (some 4)))) lc = some (.lst ([.int c0] ++ cutV (ns.map V.int) (some 1) (some 4))):=upd_same
    generalize upd (upd (upd H l0 (.lst [.int c0])) l1 (.lst (cutV (ns.map V.int) (some 1) (some 4)))) lc (.lst ([.int c0] ++ cutV (ns.map V.int) (some 1) (some 4))) = HC at hcc ⊢
    refine ⟨lc,rfl,⟨_,SqL.of hcc⟩,?_⟩
    refine for_list (K:=K) (a:=lc) (xs:=[.int c0] ++ cutV (ns.map V.int) (some 1) (some 4)) (fun i σ H' => (∃ o1 o2 o3 o4 o5,σ = [some (.ref a),o1,o2,o3,o4,o5])∧Same HC H')
      ⟨⟨_,_,_,_,_,rfl⟩,Same.refl _⟩ (fun i σ H' _ h => SqL.of (h.2 _ _ hcc)) ?_ ?_
    · rintro i y σ Ht hi ⟨⟨o1,o2,o3,o4,o5,rfl⟩,hs⟩
      obtain ⟨c,rfl⟩:∃ c,y = V.int c:=by
        rcases List.mem_append.mp (List.mem_of_getElem? hi) with z | z
        · exact ⟨c0,List.mem_singleton.mp z⟩
        · obtain ⟨c,_,e⟩:=List.mem_map.mp (cutV_mem z)
          exact ⟨c,e.symm⟩
      refine ⟨_,rfl,c,rfl,fun p H1 hp0 sp pen => ?_⟩
      refine ⟨_,rfl,p,rfl,pen,fun m g w' H2 st2 hA G => ?_⟩
      -- the lands drawn
      refine ⟨4,rfl,by decide,by decide,fun Z l hl => ?_⟩
      have npl:l ≠ p:=pen_ne st2.pen hl
      refine for_range (lo:=0) (n:=4) (fun j σ H' => (∃ o,σ = [o,some (.ref p),some (.ref m)])∧Stp p H2 H'∧∃ xs,H' l = some (.lst xs)∧xs.length = j∧∀ x ∈ xs,LandAt g H' x)
        ⟨⟨none,rfl⟩,(Stp.refl st2.pen).updL hl st2.pen,[],upd_same,rfl,fun x hx => by cases hx⟩ ?_ ?_
      · rintro j σ H' hj ⟨⟨o,rfl⟩,st',xs,hl',hn,hx⟩
        refine body_name ?_
        refine ⟨_,rfl,_,rfl,p,m,g,w',rfl,st'.pen,hA.ext (st'.ext st2.pen),G,fun t cs H3 st3 hT hL => ?_⟩
        have hl3:=st3.keep l _ npl hl'
        have ex:Ext H3 (upd H3 l (.lst (xs ++ [.ref t]))):=Ext.updL hl3
        have ex3:=st3.ext st'.pen
        refine ⟨xs,hl3,small1000 (by omega),⟨_,rfl⟩,(st'.trans st3).updL hl st2.pen,xs ++ [.ref t],upd_same,by rw [List.length_append,hn]; rfl,fun x hx' => ?_⟩
        rcases List.mem_append.mp hx' with z | z
        · exact ((hx x z).ext ex3).ext ex
        · rw [List.mem_singleton.mp z]; exact LandAt.ext ⟨t,cs,rfl,hT,hL⟩ ex
      rintro σ H3 ⟨_,st3,xs,hl3,hn,hx⟩
      -- (),all
      refine ⟨by show 0 ≤ sizeLine; decide,fun t0 ht0 => ?_⟩
      have s4:=same_upd (o:=.tup []) ht0
      have ex3:=st3.ext st2.pen
      refine ⟨_,rfl,m,g,w',rfl,(hA.ext ex3).same s4,G,fun H5 lq ps hlq s5 hlq' hP => ?_⟩
      refine ⟨lq,_,rfl,.inl ⟨SqL.of hlq',fun tq htq => ?_⟩⟩
      have s6:=same_upd (o:=.tup (ps.map V.ref)) htq
      refine ⟨by show 2 ≤ sizeLine; decide,fun l7 hl7 => ?_⟩
      have s7:=same_upd (o:=.lst [.ref t0,.ref tq]) hl7
      have sA:=((s4.trans s5).trans s6).trans s7
      refine ⟨l,l7,_,_,rfl,rfl,sA _ _ hl3,upd_same,by rw [sizeLine_eq,hn]; show 4 + 2 ≤ 16777216; omega,fun ll hll => ?_⟩
      have s8:=same_upd (o:=.lst (xs ++ [.ref t0,.ref tq])) hll
      have sB:=sA.trans s8
      have hxs:∀ x ∈ xs ++ [.ref t0,.ref tq],LandAt g (upd (upd (upd H5 tq (.tup (ps.map V.ref))) l7 (.lst [.ref t0,.ref tq])) ll (.lst (xs ++ [.ref t0,.ref tq]))) x:=fun x hx' => by
        rcases List.mem_append.mp hx' with z | z
        · exact (hx x z).ext sB.ext
        · rcases List.mem_cons.mp z with z | z
          · rw [z]; exact LandAt.ext (H:=upd H3 t0 (.tup [])) ⟨t0,[],rfl,⟨[],upd_same,.nil⟩,List.nil_sublist _⟩ (((s5.trans s6).trans s7).trans s8).ext
          · rw [List.mem_singleton.mp z]; exact LandAt.ext (H:=upd H5 tq (.tup (ps.map V.ref))) ⟨tq,_,rfl,⟨ps,upd_same,hP.same s6⟩,List.Sublist.refl _⟩ (s7.trans s8).ext
      have hxl:(xs ++ [V.ref t0,.ref tq]).length = 6:=by rw [List.length_append,hn]; rfl
      have hll8:(upd (upd (upd H5 tq (.tup (ps.map V.ref))) l7 (.lst [.ref t0,.ref tq])) ll (.lst (xs ++ [.ref t0,.ref tq]))) ll = some (.lst (xs ++ [.ref t0,.ref tq])):=upd_same
      have pen7:PenAt (upd (upd H5 tq (.tup (ps.map V.ref))) l7 (.lst [.ref t0,.ref tq])) p:=let ⟨x,y,e⟩:=st3.pen; ⟨x,y,sA _ _ e⟩
      have npll:ll ≠ p:=pen_ne pen7 hll
      have st8:=st3.same sB
      have stT:Stp p H2 _:=st8
      generalize upd (upd (upd H5 tq (.tup (ps.map V.ref))) l7 (.lst [.ref t0,.ref tq])) ll (.lst (xs ++ [.ref t0,.ref tq])) = H8 at hxs hll8 st8 stT ⊢
      generalize xs ++ [V.ref t0,.ref tq] = ys at hxs hxl hll8
      -- the bent ones
      refine ⟨_,rfl,ll,rfl,⟨_,SqL.of hll8⟩,fun Z lb hlb => ?_⟩
      have nplb:lb ≠ p:=pen_ne st8.pen hlb
      refine for_list (K:=K) (a:=ll) (xs:=ys) (fun j σ H' => (∃ o,σ = [o,some (.ref p),some (.ref m)])∧Stp p H8 H'∧∃ zs,H' lb = some (.lst zs)∧zs.length = j∧∀ z ∈ zs,KnA H' z)
        ⟨⟨none,rfl⟩,(Stp.refl st8.pen).updL hlb st8.pen,[],upd_same,rfl,fun z hz => by cases hz⟩ (fun j σ H' _ h => SqL.of (h.2.1.keep _ _ npll hll8)) ?_ ?_
      · rintro j x σ H' hxj ⟨⟨o,rfl⟩,st',zs,hl',hzn,hz⟩
        have hj:j < 6:=by have:=(List.getElem?_eq_some_iff.mp hxj).1; omega
        obtain ⟨t,cs,rfl,hT,hL⟩:=(hxs x (List.mem_of_getElem? hxj)).ext (st'.ext st8.pen)
        refine body_name ?_
        refine ⟨_,rfl,_,rfl,_,rfl,p,m,t,g,w',cs,rfl,st'.pen,hA.ext ((stT.trans st').ext st2.pen),G,hT,hL,fun v H9 st9 kv => ?_⟩
        have hl9:=st9.keep lb _ nplb hl'
        have ex:Ext H9 (upd H9 lb (.lst (zs ++ [v]))):=Ext.updL hl9
        have ex9:=st9.ext st'.pen
        refine ⟨zs,hl9,small1000 (by omega),⟨_,rfl⟩,(st'.trans st9).updL hlb st8.pen,zs ++ [v],upd_same,by rw [List.length_append,hzn]; rfl,fun z hz' => ?_⟩
        rcases List.mem_append.mp hz' with u | u
        · exact ((hz z u).ext ex9).ext ex
        · rw [List.mem_singleton.mp u]; exact kv.ext ex
      rintro σ H9 ⟨_,st9,zs,hlb9,hzn,hz⟩
      rw [hxl] at hzn
      have ex9:=st9.ext st8.pen
      have hll9:=st9.keep _ _ npll hll8
      refine ⟨_,rfl,_,rfl,ll,lb,_,_,rfl,rfl,hll9,hlb9,by rw [sizeLine_eq]; omega,fun l10 hl10 => ?_⟩
      have s10:=same_upd (o:=.lst (ys ++ zs)) hl10
      have npl10:l10 ≠ p:=pen_ne st9.pen hl10
      have st10:Stp p H9 _:=(Stp.refl st9.pen).same s10
      refine ⟨_,rfl,p,rfl,st10.pen,fun v H11 st11 kv => ?_⟩
      refine ⟨by show 1 ≤ sizeLine; decide,fun l12 hl12 => ?_⟩
      have s12:=same_upd (o:=.lst [v]) hl12
      have hl10':=s12 _ _ (st11.keep _ _ npl10 upd_same)
      refine ⟨l10,l12,_,_,rfl,rfl,hl10',upd_same,by rw [sizeLine_eq,List.length_append]; show _ + _ + 1 ≤ _; omega,fun lt hlt => ?_⟩
      have s13:=same_upd (o:=.lst (ys ++ zs ++ [v])) hlt
      have hthing:∀ x ∈ ys ++ zs ++ [v],KnA (upd (upd H11 l12 (.lst [v])) lt (.lst (ys ++ zs ++ [v]))) x:=KnA.app (KnA.app (fun x hx' => ((((LandAt.kn G ((hxs x hx').ext ex9)).ext s10.ext).ext (st11.ext st10.pen)).ext (s12.trans s13).ext)) (fun x hx' => ((hz x hx').ext s10.ext).ext (st11.ext st10.pen) |>.ext (s12.trans s13).ext)) (KnA.one (kv.ext (s12.trans s13).ext))
      have stE:Stp p H2 (upd (upd H11 l12 (.lst [v])) lt (.lst (ys ++ zs ++ [v]))):=(((stT.trans st9).trans (st10.trans st11)).same (s12.trans s13))
      have hltE:(upd (upd H11 l12 (.lst [v])) lt (.lst (ys ++ zs ++ [v]))) lt = some (.lst (ys ++ zs ++ [v])):=upd_same
      have hzl:(ys ++ zs ++ [v]).length ≤ 13:=by rw [List.length_append,List.length_append]; show _ + _ + 1 ≤ _; omega
      generalize upd (upd H11 l12 (.lst [v])) lt (.lst (ys ++ zs ++ [v])) = HE at hthing stE hltE ⊢
      generalize ys ++ zs ++ [v] = us at hthing hltE hzl
      refine ⟨_,rfl,lt,rfl,⟨_,SqL.of hltE⟩,fun Z la hla => ?_⟩
      refine for_list (K:=K) (a:=lt) (xs:=us) (fun j σ H' => (∃ o,σ = [o,some (.ref m)])∧Same HE H'∧H' la = some (.lst ((us.take j).map fun _ => V.bl true))) ⟨⟨_,rfl⟩,same_upd hla,by rw [upd_same]; rfl⟩ (fun j σ H' _ h => SqL.of (h.2.1 _ _ hltE)) ?_ ?_
      · rintro j x σ H' hxj ⟨⟨o,rfl⟩,hs',hl'⟩
        have hj:j < us.length:=(List.getElem?_eq_some_iff.mp hxj).1
        refine body_name ?_
        refine ⟨_,rfl,_,rfl,m,g,w',x,rfl,(hA.ext (stE.ext st2.pen)).same hs',G,((hthing x (List.mem_of_getElem? hxj)).ext hs'.ext) 3,fun H14 s14 => ?_⟩
        refine ⟨_,s14 _ _ hl',small1000 (by rw [List.length_map,List.length_take]; omega),⟨_,rfl⟩,fun b' u e' => ?_,?_⟩
        · rw [upd_ne (ne_of_none e' hla)]; exact s14 _ _ (hs' _ _ e')
        · rw [upd_same,List.take_succ,hxj,List.map_append]; rfl
      · rintro σ H' ⟨_,hs',hl'⟩
        rw [List.take_of_length_le (Nat.le_refl _)] at hl'
        refine ⟨la,us.map fun _ => true,rfl,SqL.of (by rw [hl',List.map_map]; rfl),_,rfl,?_⟩
        have ea:(us.map fun _ => true).all id = true:=by rw [List.all_map]; exact List.all_eq_true.mpr fun _ _ => rfl
        rw [ea]
        refine iteF ⟨⟨_,_,_,_,_,rfl⟩,fun b o e => ?_⟩
        have e0:=hs b o e
        have bp:b ≠ p:=ne_of_none e0 hp0
        exact hs' _ _ (stE.keep b o bp (st2.keep b o bp (sp _ _ e0)))
    · rintro σ H' _
      exact q H'
end
end M43
namespace M43
open PySem L2 PyProof.Rows Grd
theorem exm_of {K:PySem.W.Frag} {cP cE:Addr} (h1:PySem.W.subIn K (.ref cE) (.type "BaseException") = some true) (h2:PySem.W.kitOne K (.ref cP) (.ref cE) = some true) (h3:(Value.ref cP == Value.ref cE) = false):PySem.W.exmOne K (.ref cP) (.ref cE) = some true:=by
 unfold PySem.W.kitOne at h2
 rw [if_neg (by rw [h3]; decide)] at h2
 unfold PySem.W.exmOne
 rw [h1,if_pos (by decide)]
 exact h2
theorem kit_self {K:PySem.W.Frag} {c:Addr}:PySem.W.kitOne K (.ref c) (.ref c) = some true:=by unfold PySem.W.kitOne; rw [if_pos (by simp)]
theorem all_mk {l:PySem.W.OpenLaw} {w:World} {K:PySem.W.Frag} {h:Heap} {mg:Str→Option Value} {fa cE cM cP cL:Addr} {f0 f1 f2 f3 f4 f5 f6 f7 f8 f9 f10 f11 f12 f13 f14 f15 f16 f17 f18 f19 f20 f21 f22 f23 f24 f25 f26 f27 f28 f29 f30 f31 f32 f33 f34 f35 f36 f37 f38 f39 f40:Addr} {od0 an0 od1 an1 od2 an2 od3 an3 od4 an4 od5 an5 od6 an6 od7 an7 od8 an8 od9 an9 od10 an10 od11 an11 od12 an12 od13 an13 od14 an14 od15 an15 od16 an16 od17 an17 od18 an18 od19 an19 od20 an20 od21 an21 od22 an22 od23 an23 od24 an24 od25 an25 od26 an26 od27 an27 od28 an28 od29 an29 od30 an30 od31 an31 od32 an32 od33 an33 od34 an34 od35 an35 od36 an36 od37 an37 od38 an38 od39 an39 od40 an40:Option Addr} {sl0 sl1 sl2 sl3 sl4 sl5 sl6 sl7 sl8 sl9 sl10 sl11 sl12 sl13 sl14 sl15 sl16 sl17 sl18 sl19 sl20 sl21 sl22 sl23 sl24 sl25 sl26 sl27 sl28 sl29 sl30 sl31 sl32 sl33 sl34 sl35 sl36 sl37 sl38 sl39 sl40:Array (Option Value)} {oc0 kV0 dc0 pm0 cd0 ct0 oc1 kV1 dc1 pm1 cd1 ct1 oc2 kV2 dc2 pm2 cd2 ct2 oc3 kV3 dc3 pm3 cd3 ct3 oc4 kV4 dc4 pm4 cd4 ct4 oc5 kV5 dc5 pm5 cd5 ct5 oc6 kV6 dc6 pm6 cd6 ct6 oc7 kV7 dc7 pm7 cd7 ct7 oc8 kV8 dc8 pm8 cd8 ct8 oc9 kV9 dc9 pm9 cd9 ct9 oc10 kV10 dc10 pm10 cd10 ct10 oc11 kV11 dc11 pm11 cd11 ct11 oc12 kV12 dc12 pm12 cd12 ct12 oc13 kV13 dc13 pm13 cd13 ct13 oc14 kV14 dc14 pm14 cd14 ct14 oc15 kV15 dc15 pm15 cd15 ct15 oc16 kV16 dc16 pm16 cd16 ct16 oc17 kV17 dc17 pm17 cd17 ct17 oc18 kV18 dc18 pm18 cd18 ct18 oc19 kV19 dc19 pm19 cd19 ct19 oc20 kV20 dc20 pm20 cd20 ct20 oc21 kV21 dc21 pm21 cd21 ct21 oc22 kV22 dc22 pm22 cd22 ct22 oc23 kV23 dc23 pm23 cd23 ct23 oc24 kV24 dc24 pm24 cd24 ct24 oc25 kV25 dc25 pm25 cd25 ct25 oc26 kV26 dc26 pm26 cd26 ct26 oc27 kV27 dc27 pm27 cd27 ct27 oc28 kV28 dc28 pm28 cd28 ct28 oc29 kV29 dc29 pm29 cd29 ct29 oc30 kV30 dc30 pm30 cd30 ct30 oc31 kV31 dc31 pm31 cd31 ct31 oc32 kV32 dc32 pm32 cd32 ct32 oc33 kV33 dc33 pm33 cd33 ct33 oc34 kV34 dc34 pm34 cd34 ct34 oc35 kV35 dc35 pm35 cd35 ct35 oc36 kV36 dc36 pm36 cd36 ct36 oc37 kV37 dc37 pm37 cd37 ct37 oc38 kV38 dc38 pm38 cd38 ct38 oc39 kV39 dc39 pm39 cd39 ct39 oc40 kV40 dc40 pm40 cd40 ct40:Value} {t0 t1 t2 t3 t4 t5:Tok} (X:K.In h) (G:h.Ns mainGlobals mg) (hfa:mg "law" = some (.ref fa))
  (a0:PySem.W.nsIn K mainGlobals "is_number" = some (some (.ref f0)))
  (l0:K.lookup f0 = some ⟨oc0,od0,.func (PySem.W.fnOf "is_number" "is_number" (defArgs sNumber) (defBody sNumber) (defScope sNumber) .none kV0 dc0 pm0 an0 cd0 ct0),sl0⟩)
  (c0:PySem.W.codeIn K cd0 "is_number" = true)
  (k0:PySem.W.keepIn K (.ref f0) = true)
  (a1:PySem.W.nsIn K mainGlobals "is_number_within" = some (some (.ref f1)))
  (l1:K.lookup f1 = some ⟨oc1,od1,.func (PySem.W.fnOf "is_number_within" "is_number_within" (defArgs sWithin) (defBody sWithin) (defScope sWithin) .none kV1 dc1 pm1 an1 cd1 ct1),sl1⟩)
  (c1:PySem.W.codeIn K cd1 "is_number_within" = true)
  (k1:PySem.W.keepIn K (.ref f1) = true)
  (a2:PySem.W.nsIn K mainGlobals "is_tuple_within" = some (some (.ref f2)))
  (l2:K.lookup f2 = some ⟨oc2,od2,.func (PySem.W.fnOf "is_tuple_within" "is_tuple_within" (defArgs sTuple) (defBody sTuple) (defScope sTuple) .none kV2 dc2 pm2 an2 cd2 ct2),sl2⟩)
  (c2:PySem.W.codeIn K cd2 "is_tuple_within" = true)
  (k2:PySem.W.keepIn K (.ref f2) = true)
  (a3:PySem.W.nsIn K mainGlobals "is_pair_of_numbers" = some (some (.ref f3)))
  (l3:K.lookup f3 = some ⟨oc3,od3,.func (PySem.W.fnOf "is_pair_of_numbers" "is_pair_of_numbers" (defArgs sPair) (defBody sPair) (defScope sPair) .none kV3 dc3 pm3 an3 cd3 ct3),sl3⟩)
  (c3:PySem.W.codeIn K cd3 "is_pair_of_numbers" = true)
  (k3:PySem.W.keepIn K (.ref f3) = true)
  (a4:PySem.W.nsIn K mainGlobals "is_rising" = some (some (.ref f4)))
  (l4:K.lookup f4 = some ⟨oc4,od4,.func (PySem.W.fnOf "is_rising" "is_rising" (defArgs sRising) (defBody sRising) (defScope sRising) .none kV4 dc4 pm4 an4 cd4 ct4),sl4⟩)
  (c4:PySem.W.codeIn K cd4 "is_rising" = true)
  (k4:PySem.W.keepIn K (.ref f4) = true)
  (a5:PySem.W.nsIn K mainGlobals "is_row" = some (some (.ref f5)))
  (l5:K.lookup f5 = some ⟨oc5,od5,.func (PySem.W.fnOf "is_row" "is_row" (defArgs sRow) (defBody sRow) (defScope sRow) .none kV5 dc5 pm5 an5 cd5 ct5),sl5⟩)
  (c5:PySem.W.codeIn K cd5 "is_row" = true)
  (k5:PySem.W.keepIn K (.ref f5) = true)
  (a6:PySem.W.nsIn K mainGlobals "is_mead" = some (some (.ref f6)))
  (l6:K.lookup f6 = some ⟨oc6,od6,.func (PySem.W.fnOf "is_mead" "is_mead" (defArgs sMead) (defBody sMead) (defScope sMead) .none kV6 dc6 pm6 an6 cd6 ct6),sl6⟩)
  (c6:PySem.W.codeIn K cd6 "is_mead" = true)
  (k6:PySem.W.keepIn K (.ref f6) = true)
  (a7:PySem.W.nsIn K mainGlobals "check_mead" = some (some (.ref f7)))
  (l7:K.lookup f7 = some ⟨oc7,od7,.func (PySem.W.fnOf "check_mead" "check_mead" (defArgs sCheck) (defBody sCheck) (defScope sCheck) .none kV7 dc7 pm7 an7 cd7 ct7),sl7⟩)
  (c7:PySem.W.codeIn K cd7 "check_mead" = true)
  (k7:PySem.W.keepIn K (.ref f7) = true)
  (a8:PySem.W.nsIn K mainGlobals "places_of_cells" = some (some (.ref f8)))
  (l8:K.lookup f8 = some ⟨oc8,od8,.func (PySem.W.fnOf "places_of_cells" "places_of_cells" (defArgs sPlaces) (defBody sPlaces) (defScope sPlaces) .none kV8 dc8 pm8 an8 cd8 ct8),sl8⟩)
  (c8:PySem.W.codeIn K cd8 "places_of_cells" = true)
  (k8:PySem.W.keepIn K (.ref f8) = true)
  (a9:PySem.W.nsIn K mainGlobals "cells_of" = some (some (.ref f9)))
  (l9:K.lookup f9 = some ⟨oc9,od9,.func (PySem.W.fnOf "cells_of" "cells_of" (defArgs sCellsOf) (defBody sCellsOf) (defScope sCellsOf) .none kV9 dc9 pm9 an9 cd9 ct9),sl9⟩)
  (c9:PySem.W.codeIn K cd9 "cells_of" = true)
  (k9:PySem.W.keepIn K (.ref f9) = true)
  (a10:PySem.W.nsIn K mainGlobals "roads_of" = some (some (.ref f10)))
  (l10:K.lookup f10 = some ⟨oc10,od10,.func (PySem.W.fnOf "roads_of" "roads_of" (defArgs sRoadsOf) (defBody sRoadsOf) (defScope sRoadsOf) .none kV10 dc10 pm10 an10 cd10 ct10),sl10⟩)
  (c10:PySem.W.codeIn K cd10 "roads_of" = true)
  (k10:PySem.W.keepIn K (.ref f10) = true)
  (a11:PySem.W.nsIn K mainGlobals "is_cell" = some (some (.ref f11)))
  (l11:K.lookup f11 = some ⟨oc11,od11,.func (PySem.W.fnOf "is_cell" "is_cell" (defArgs sIsCell) (defBody sIsCell) (defScope sIsCell) .none kV11 dc11 pm11 an11 cd11 ct11),sl11⟩)
  (c11:PySem.W.codeIn K cd11 "is_cell" = true)
  (k11:PySem.W.keepIn K (.ref f11) = true)
  (a12:PySem.W.nsIn K mainGlobals "worth_together" = some (some (.ref f12)))
  (l12:K.lookup f12 = some ⟨oc12,od12,.func (PySem.W.fnOf "worth_together" "worth_together" (defArgs sWTog) (defBody sWTog) (defScope sWTog) .none kV12 dc12 pm12 an12 cd12 ct12),sl12⟩)
  (c12:PySem.W.codeIn K cd12 "worth_together" = true)
  (k12:PySem.W.keepIn K (.ref f12) = true)
  (a13:PySem.W.nsIn K mainGlobals "places_beside" = some (some (.ref f13)))
  (l13:K.lookup f13 = some ⟨oc13,od13,.func (PySem.W.fnOf "places_beside" "places_beside" (defArgs sBeside) (defBody sBeside) (defScope sBeside) .none kV13 dc13 pm13 an13 cd13 ct13),sl13⟩)
  (c13:PySem.W.codeIn K cd13 "places_beside" = true)
  (k13:PySem.W.keepIn K (.ref f13) = true)
  (a14:PySem.W.nsIn K mainGlobals "is_land" = some (some (.ref f14)))
  (l14:K.lookup f14 = some ⟨oc14,od14,.func (PySem.W.fnOf "is_land" "is_land" (defArgs sIsLand) (defBody sIsLand) (defScope sIsLand) .none kV14 dc14 pm14 an14 cd14 ct14),sl14⟩)
  (c14:PySem.W.codeIn K cd14 "is_land" = true)
  (k14:PySem.W.keepIn K (.ref f14) = true)
  (a15:PySem.W.nsIn K mainGlobals "check_land" = some (some (.ref f15)))
  (l15:K.lookup f15 = some ⟨oc15,od15,.func (PySem.W.fnOf "check_land" "check_land" (defArgs sChkLand) (defBody sChkLand) (defScope sChkLand) .none kV15 dc15 pm15 an15 cd15 ct15),sl15⟩)
  (c15:PySem.W.codeIn K cd15 "check_land" = true)
  (k15:PySem.W.keepIn K (.ref f15) = true)
  (a16:PySem.W.nsIn K mainGlobals "piece_round" = some (some (.ref f16)))
  (l16:K.lookup f16 = some ⟨oc16,od16,.func (PySem.W.fnOf "piece_round" "piece_round" (defArgs sPieceR) (defBody sPieceR) (defScope sPieceR) .none kV16 dc16 pm16 an16 cd16 ct16),sl16⟩)
  (c16:PySem.W.codeIn K cd16 "piece_round" = true)
  (k16:PySem.W.keepIn K (.ref f16) = true)
  (a17:PySem.W.nsIn K mainGlobals "pieces_of" = some (some (.ref f17)))
  (l17:K.lookup f17 = some ⟨oc17,od17,.func (PySem.W.fnOf "pieces_of" "pieces_of" (defArgs sPieces) (defBody sPieces) (defScope sPieces) .none kV17 dc17 pm17 an17 cd17 ct17),sl17⟩)
  (c17:PySem.W.codeIn K cd17 "pieces_of" = true)
  (k17:PySem.W.keepIn K (.ref f17) = true)
  (a18:PySem.W.nsIn K mainGlobals "is_one_piece" = some (some (.ref f18)))
  (l18:K.lookup f18 = some ⟨oc18,od18,.func (PySem.W.fnOf "is_one_piece" "is_one_piece" (defArgs sOne) (defBody sOne) (defScope sOne) .none kV18 dc18 pm18 an18 cd18 ct18),sl18⟩)
  (c18:PySem.W.codeIn K cd18 "is_one_piece" = true)
  (k18:PySem.W.keepIn K (.ref f18) = true)
  (a19:PySem.W.nsIn K mainGlobals "hangs_together" = some (some (.ref f19)))
  (l19:K.lookup f19 = some ⟨oc19,od19,.func (PySem.W.fnOf "hangs_together" "hangs_together" (defArgs sHangs) (defBody sHangs) (defScope sHangs) .none kV19 dc19 pm19 an19 cd19 ct19),sl19⟩)
  (c19:PySem.W.codeIn K cd19 "hangs_together" = true)
  (k19:PySem.W.keepIn K (.ref f19) = true)
  (a20:PySem.W.nsIn K mainGlobals "cells_at_road" = some (some (.ref f20)))
  (l20:K.lookup f20 = some ⟨oc20,od20,.func (PySem.W.fnOf "cells_at_road" "cells_at_road" (defArgs sCRoad) (defBody sCRoad) (defScope sCRoad) .none kV20 dc20 pm20 an20 cd20 ct20),sl20⟩)
  (c20:PySem.W.codeIn K cd20 "cells_at_road" = true)
  (k20:PySem.W.keepIn K (.ref f20) = true)
  (a21:PySem.W.nsIn K mainGlobals "has_some_of" = some (some (.ref f21)))
  (l21:K.lookup f21 = some ⟨oc21,od21,.func (PySem.W.fnOf "has_some_of" "has_some_of" (defArgs sSome) (defBody sSome) (defScope sSome) .none kV21 dc21 pm21 an21 cd21 ct21),sl21⟩)
  (c21:PySem.W.codeIn K cd21 "has_some_of" = true)
  (k21:PySem.W.keepIn K (.ref f21) = true)
  (a22:PySem.W.nsIn K mainGlobals "at_road" = some (some (.ref f22)))
  (l22:K.lookup f22 = some ⟨oc22,od22,.func (PySem.W.fnOf "at_road" "at_road" (defArgs sAtRoad) (defBody sAtRoad) (defScope sAtRoad) .none kV22 dc22 pm22 an22 cd22 ct22),sl22⟩)
  (c22:PySem.W.codeIn K cd22 "at_road" = true)
  (k22:PySem.W.keepIn K (.ref f22) = true)
  (a23:PySem.W.nsIn K mainGlobals "worth_of" = some (some (.ref f23)))
  (l23:K.lookup f23 = some ⟨oc23,od23,.func (PySem.W.fnOf "worth_of" "worth_of" (defArgs sWorthOf) (defBody sWorthOf) (defScope sWorthOf) .none kV23 dc23 pm23 an23 cd23 ct23),sl23⟩)
  (c23:PySem.W.codeIn K cd23 "worth_of" = true)
  (k23:PySem.W.keepIn K (.ref f23) = true)
  (a24:PySem.W.nsIn K mainGlobals "_law_cell" = some (some (.ref f24)))
  (l24:K.lookup f24 = some ⟨oc24,od24,.func (PySem.W.fnOf "_law_cell" "_law_cell" (defArgs sCell) (defBody sCell) (defScope sCell) .none kV24 dc24 pm24 an24 cd24 ct24),sl24⟩)
  (c24:PySem.W.codeIn K cd24 "_law_cell" = true)
  (k24:PySem.W.keepIn K (.ref f24) = true)
  (a25:PySem.W.nsIn K mainGlobals "_law_pen" = some (some (.ref f25)))
  (l25:K.lookup f25 = some ⟨oc25,od25,.func (PySem.W.fnOf "_law_pen" "_law_pen" (defArgs sPen) (defBody sPen) (defScope sPen) .none kV25 dc25 pm25 an25 cd25 ct25),sl25⟩)
  (c25:PySem.W.codeIn K cd25 "_law_pen" = true)
  (k25:PySem.W.keepIn K (.ref f25) = true)
  (a26:PySem.W.nsIn K mainGlobals "_law_draw" = some (some (.ref f26)))
  (l26:K.lookup f26 = some ⟨oc26,od26,.func (PySem.W.fnOf "_law_draw" "_law_draw" (defArgs sDraw) (defBody sDraw) (defScope sDraw) .none kV26 dc26 pm26 an26 cd26 ct26),sl26⟩)
  (c26:PySem.W.codeIn K cd26 "_law_draw" = true)
  (k26:PySem.W.keepIn K (.ref f26) = true)
  (a27:PySem.W.nsIn K mainGlobals "_law_same" = some (some (.ref f27)))
  (l27:K.lookup f27 = some ⟨oc27,od27,.func (PySem.W.fnOf "_law_same" "_law_same" (defArgs sSame) (defBody sSame) (defScope sSame) .none kV27 dc27 pm27 an27 cd27 ct27),sl27⟩)
  (c27:PySem.W.codeIn K cd27 "_law_same" = true)
  (k27:PySem.W.keepIn K (.ref f27) = true)
  (a28:PySem.W.nsIn K mainGlobals "_law_thing" = some (some (.ref f28)))
  (l28:K.lookup f28 = some ⟨oc28,od28,.func (PySem.W.fnOf "_law_thing" "_law_thing" (defArgs sThing) (defBody sThing) (defScope sThing) .none kV28 dc28 pm28 an28 cd28 ct28),sl28⟩)
  (c28:PySem.W.codeIn K cd28 "_law_thing" = true)
  (k28:PySem.W.keepIn K (.ref f28) = true)
  (a29:PySem.W.nsIn K mainGlobals "_law_mead" = some (some (.ref f29)))
  (l29:K.lookup f29 = some ⟨oc29,od29,.func (PySem.W.fnOf "_law_mead" "_law_mead" (defArgs sMeadL) (defBody sMeadL) (defScope sMeadL) .none kV29 dc29 pm29 an29 cd29 ct29),sl29⟩)
  (c29:PySem.W.codeIn K cd29 "_law_mead" = true)
  (k29:PySem.W.keepIn K (.ref f29) = true)
  (a30:PySem.W.nsIn K mainGlobals "_law_cells" = some (some (.ref f30)))
  (l30:K.lookup f30 = some ⟨oc30,od30,.func (PySem.W.fnOf "_law_cells" "_law_cells" (defArgs sLCells) (defBody sLCells) (defScope sLCells) .none kV30 dc30 pm30 an30 cd30 ct30),sl30⟩)
  (c30:PySem.W.codeIn K cd30 "_law_cells" = true)
  (k30:PySem.W.keepIn K (.ref f30) = true)
  (a31:PySem.W.nsIn K mainGlobals "_law_next" = some (some (.ref f31)))
  (l31:K.lookup f31 = some ⟨oc31,od31,.func (PySem.W.fnOf "_law_next" "_law_next" (defArgs sNext) (defBody sNext) (defScope sNext) .none kV31 dc31 pm31 an31 cd31 ct31),sl31⟩)
  (c31:PySem.W.codeIn K cd31 "_law_next" = true)
  (k31:PySem.W.keepIn K (.ref f31) = true)
  (a32:PySem.W.nsIn K mainGlobals "_law_piece" = some (some (.ref f32)))
  (l32:K.lookup f32 = some ⟨oc32,od32,.func (PySem.W.fnOf "_law_piece" "_law_piece" (defArgs sLPiece) (defBody sLPiece) (defScope sLPiece) .none kV32 dc32 pm32 an32 cd32 ct32),sl32⟩)
  (c32:PySem.W.codeIn K cd32 "_law_piece" = true)
  (k32:PySem.W.keepIn K (.ref f32) = true)
  (a33:PySem.W.nsIn K mainGlobals "_law_at_road" = some (some (.ref f33)))
  (l33:K.lookup f33 = some ⟨oc33,od33,.func (PySem.W.fnOf "_law_at_road" "_law_at_road" (defArgs sLRoad) (defBody sLRoad) (defScope sLRoad) .none kV33 dc33 pm33 an33 cd33 ct33),sl33⟩)
  (c33:PySem.W.codeIn K cd33 "_law_at_road" = true)
  (k33:PySem.W.keepIn K (.ref f33) = true)
  (a34:PySem.W.nsIn K mainGlobals "_law_worth" = some (some (.ref f34)))
  (l34:K.lookup f34 = some ⟨oc34,od34,.func (PySem.W.fnOf "_law_worth" "_law_worth" (defArgs sLWorth) (defBody sLWorth) (defScope sLWorth) .none kV34 dc34 pm34 an34 cd34 ct34),sl34⟩)
  (c34:PySem.W.codeIn K cd34 "_law_worth" = true)
  (k34:PySem.W.keepIn K (.ref f34) = true)
  (a35:PySem.W.nsIn K mainGlobals "_law_land" = some (some (.ref f35)))
  (l35:K.lookup f35 = some ⟨oc35,od35,.func (PySem.W.fnOf "_law_land" "_law_land" (defArgs sLand) (defBody sLand) (defScope sLand) .none kV35 dc35 pm35 an35 cd35 ct35),sl35⟩)
  (c35:PySem.W.codeIn K cd35 "_law_land" = true)
  (k35:PySem.W.keepIn K (.ref f35) = true)
  (a36:PySem.W.nsIn K mainGlobals "_law_good" = some (some (.ref f36)))
  (l36:K.lookup f36 = some ⟨oc36,od36,.func (PySem.W.fnOf "_law_good" "_law_good" (defArgs sGood) (defBody sGood) (defScope sGood) .none kV36 dc36 pm36 an36 cd36 ct36),sl36⟩)
  (c36:PySem.W.codeIn K cd36 "_law_good" = true)
  (k36:PySem.W.keepIn K (.ref f36) = true)
  (a37:PySem.W.nsIn K mainGlobals "_law_bent" = some (some (.ref f37)))
  (l37:K.lookup f37 = some ⟨oc37,od37,.func (PySem.W.fnOf "_law_bent" "_law_bent" (defArgs sBent) (defBody sBent) (defScope sBent) .none kV37 dc37 pm37 an37 cd37 ct37),sl37⟩)
  (c37:PySem.W.codeIn K cd37 "_law_bent" = true)
  (k37:PySem.W.keepIn K (.ref f37) = true)
  (a38:PySem.W.nsIn K mainGlobals "_law_told" = some (some (.ref f38)))
  (l38:K.lookup f38 = some ⟨oc38,od38,.func (PySem.W.fnOf "_law_told" "_law_told" (defArgs sTold) (defBody sTold) (defScope sTold) .none kV38 dc38 pm38 an38 cd38 ct38),sl38⟩)
  (c38:PySem.W.codeIn K cd38 "_law_told" = true)
  (k38:PySem.W.keepIn K (.ref f38) = true)
  (a39:PySem.W.nsIn K mainGlobals "_law_right" = some (some (.ref f39)))
  (l39:K.lookup f39 = some ⟨oc39,od39,.func (PySem.W.fnOf "_law_right" "_law_right" (defArgs sRight) (defBody sRight) (defScope sRight) .none kV39 dc39 pm39 an39 cd39 ct39),sl39⟩)
  (c39:PySem.W.codeIn K cd39 "_law_right" = true)
  (k39:PySem.W.keepIn K (.ref f39) = true)
  (a40:PySem.W.nsIn K mainGlobals "law" = some (some (.ref f40)))
  (l40:K.lookup f40 = some ⟨oc40,od40,.func (PySem.W.fnOf "law" "law" (defArgs sLaw) (defBody sLaw) (defScope sLaw) .none kV40 dc40 pm40 an40 cd40 ct40),sl40⟩)
  (c40:PySem.W.codeIn K cd40 "law" = true)
  (k40:PySem.W.keepIn K (.ref f40) = true)
  (v0:PySem.W.nsIn K mainGlobals "MOST_ROWS" = some (some (.int 4 t0)))
  (v1:PySem.W.nsIn K mainGlobals "MOST_COLUMNS" = some (some (.int 6 t1)))
  (v2:PySem.W.nsIn K mainGlobals "MOST_CELLS" = some (some (.int 10 t2)))
  (v3:PySem.W.nsIn K mainGlobals "MOST_WORTH" = some (some (.int 99 t3)))
  (v4:PySem.W.nsIn K mainGlobals "WATER" = some (some (.int (-2) t4)))
  (v5:PySem.W.nsIn K mainGlobals "ROAD" = some (some (.int (-1) t5)))
  (z0:PySem.W.nsIn K mainGlobals "isinstance" = some none)
  (z1:PySem.W.nsIn K mainGlobals "int" = some none)
  (z2:PySem.W.nsIn K mainGlobals "bool" = some none)
  (z3:PySem.W.nsIn K mainGlobals "tuple" = some none)
  (z4:PySem.W.nsIn K mainGlobals "len" = some none)
  (z5:PySem.W.nsIn K mainGlobals "all" = some none)
  (z6:PySem.W.nsIn K mainGlobals "enumerate" = some none)
  (z7:PySem.W.nsIn K mainGlobals "range" = some none)
  (z8:PySem.W.nsIn K mainGlobals "list" = some none)
  (z9:PySem.W.nsIn K mainGlobals "zip" = some none)
  (z10:PySem.W.nsIn K mainGlobals "sum" = some none)
  (z11:PySem.W.nsIn K mainGlobals "dict" = some none)
  (z12:PySem.W.nsIn K mainGlobals "set" = some none)
  (z13:PySem.W.nsIn K mainGlobals "sorted" = some none)
  (z14:PySem.W.nsIn K mainGlobals "any" = some none)
  (z15:PySem.W.nsIn K mainGlobals "abs" = some none)
  (z16:PySem.W.nsIn K mainGlobals "ValueError" = some none)
  (e0:PySem.W.nsIn K mainGlobals "MeadError" = some (some (.ref cE)))
  (e1:PySem.W.nsIn K mainGlobals "NoMead" = some (some (.ref cM)))
  (e2:PySem.W.nsIn K mainGlobals "NoPlace" = some (some (.ref cP)))
  (e3:PySem.W.nsIn K mainGlobals "NoLand" = some (some (.ref cL)))
  (x0:PySem.W.excIn K cL [.type "ValueError",.type "Exception",.type "BaseException",.type "object"] "ValueError.__new__" = true)
  (x1:PySem.W.subIn K (.ref cE) (.type "BaseException") = some true)
  (x3:PySem.W.kitOne K (.ref cL) (.ref cM) = some false)
  (x4:PySem.W.kitOne K (.ref cL) (.ref cP) = some false)
  (x5:PySem.W.kitOne K (.ref cL) (.type "ValueError") = some true)
  (x6:PySem.W.kitOne K (.ref cL) (.ref cE) = some true)
  (x7:(Value.ref cL == Value.ref cE) = false)
  (y1:PySem.W.findIn K (.ref cL) "__class__" = some (some (.builtin "object.__class__")))
  (y2:PySem.W.findIn K (.ref cL) "__getattribute__" = some (some (.builtin "BaseException.__getattribute__")))
  (y3:PySem.W.findIn K (.ref cL) "__getattr__" = some none)
  (y4:PySem.W.mroIn K cL (.type "object") = some true)
  (y5:PySem.W.mroIn K cL (.type "BaseException") = some true)
  (y6:PySem.W.specialIn K (.builtin "object.__class__") "__get__" = some (some (.builtin "getset_descriptor.__get__")))
  (y7:PySem.W.takesIn K (.builtin "object.__class__") = some true) :
  ∃ fd:FuncData,(∀ (s:Shared) (v:Value),BindsTo s fd ⟨[v],[]⟩ [("_law_script",v)])∧∀ base:Heap,K.In base→base.Ns mainGlobals mg→FnOk l.prog w K mg base CX0 11 fa fd ["_law_script"] (spLaw K):=by
 have e:=hfa.symm.trans (PySem.W.mg_of X G a40)
 cases e
 have T:Txt mg:=⟨PySem.W.mg_none_of X G z0,PySem.W.mg_none_of X G z1,PySem.W.mg_none_of X G z2,PySem.W.mg_none_of X G z3,PySem.W.mg_none_of X G z4,PySem.W.mg_none_of X G z5,PySem.W.mg_none_of X G z6,⟨_,PySem.W.mg_of X G v0⟩,⟨_,PySem.W.mg_of X G v1⟩,⟨_,PySem.W.mg_of X G v2⟩,⟨_,PySem.W.mg_of X G v3⟩,⟨_,PySem.W.mg_of X G v4⟩⟩
 have T2:Txt2 mg:=⟨PySem.W.mg_none_of X G z7,PySem.W.mg_none_of X G z8,PySem.W.mg_none_of X G z9,PySem.W.mg_none_of X G z10,PySem.W.mg_none_of X G z11,PySem.W.mg_none_of X G z12,PySem.W.mg_none_of X G z13,PySem.W.mg_none_of X G z14,PySem.W.mg_none_of X G z15,⟨_,PySem.W.mg_of X G v5⟩⟩
 have C:Cls K mg cE cM cP cL:=⟨PySem.W.mg_of X G e0,PySem.W.mg_of X G e1,PySem.W.mg_of X G e2,PySem.W.mg_of X G e3,PySem.W.mg_none_of X G z16,⟨x0,y1,y2,y3,y4,y5,y6,y7⟩,exm_of x1 x6 x7,kit_self,x3,x4,x5⟩
 have F0:=fun_mk (st:=sNumber) l0 c0 k0
 have m0:=PySem.W.mg_of X G a0
 have b0:=F0.binds (ps:=["thing"]) fun _ _ _ _ _ _ us hl => match us,hl with | [_],_ => rfl
 have F1:=fun_mk (st:=sWithin) l1 c1 k1
 have m1:=PySem.W.mg_of X G a1
 have b1:=F1.binds (ps:=["thing","least","most"]) fun _ _ _ _ _ _ us hl => match us,hl with | [_,_,_],_ => rfl
 have F2:=fun_mk (st:=sTuple) l2 c2 k2
 have m2:=PySem.W.mg_of X G a2
 have b2:=F2.binds (ps:=["thing","least","most"]) fun _ _ _ _ _ _ us hl => match us,hl with | [_,_,_],_ => rfl
 have F3:=fun_mk (st:=sPair) l3 c3 k3
 have m3:=PySem.W.mg_of X G a3
 have b3:=F3.binds (ps:=["thing"]) fun _ _ _ _ _ _ us hl => match us,hl with | [_],_ => rfl
 have F4:=fun_mk (st:=sRising) l4 c4 k4
 have m4:=PySem.W.mg_of X G a4
 have b4:=F4.binds (ps:=["things"]) fun _ _ _ _ _ _ us hl => match us,hl with | [_],_ => rfl
 have F5:=fun_mk (st:=sRow) l5 c5 k5
 have m5:=PySem.W.mg_of X G a5
 have b5:=F5.binds (ps:=["thing"]) fun _ _ _ _ _ _ us hl => match us,hl with | [_],_ => rfl
 have F6:=fun_mk (st:=sMead) l6 c6 k6
 have m6:=PySem.W.mg_of X G a6
 have b6:=F6.binds (ps:=["thing"]) fun _ _ _ _ _ _ us hl => match us,hl with | [_],_ => rfl
 have F7:=fun_mk (st:=sCheck) l7 c7 k7
 have m7:=PySem.W.mg_of X G a7
 have b7:=F7.binds (ps:=["mead"]) fun _ _ _ _ _ _ us hl => match us,hl with | [_],_ => rfl
 have F8:=fun_mk (st:=sPlaces) l8 c8 k8
 have m8:=PySem.W.mg_of X G a8
 have b8:=F8.binds (ps:=["mead"]) fun _ _ _ _ _ _ us hl => match us,hl with | [_],_ => rfl
 have F9:=fun_mk (st:=sCellsOf) l9 c9 k9
 have m9:=PySem.W.mg_of X G a9
 have b9:=F9.binds (ps:=["mead"]) fun _ _ _ _ _ _ us hl => match us,hl with | [_],_ => rfl
 have F10:=fun_mk (st:=sRoadsOf) l10 c10 k10
 have m10:=PySem.W.mg_of X G a10
 have b10:=F10.binds (ps:=["mead"]) fun _ _ _ _ _ _ us hl => match us,hl with | [_],_ => rfl
 have F11:=fun_mk (st:=sIsCell) l11 c11 k11
 have m11:=PySem.W.mg_of X G a11
 have b11:=F11.binds (ps:=["mead","thing"]) fun _ _ _ _ _ _ us hl => match us,hl with | [_,_],_ => rfl
 have F12:=fun_mk (st:=sWTog) l12 c12 k12
 have m12:=PySem.W.mg_of X G a12
 have b12:=F12.binds (ps:=["mead","places"]) fun _ _ _ _ _ _ us hl => match us,hl with | [_,_],_ => rfl
 have F13:=fun_mk (st:=sBeside) l13 c13 k13
 have m13:=PySem.W.mg_of X G a13
 have b13:=F13.binds (ps:=["place"]) fun _ _ _ _ _ _ us hl => match us,hl with | [_],_ => rfl
 have F14:=fun_mk (st:=sIsLand) l14 c14 k14
 have m14:=PySem.W.mg_of X G a14
 have b14:=F14.binds (ps:=["mead","thing"]) fun _ _ _ _ _ _ us hl => match us,hl with | [_,_],_ => rfl
 have F15:=fun_mk (st:=sChkLand) l15 c15 k15
 have m15:=PySem.W.mg_of X G a15
 have b15:=F15.binds (ps:=["mead","land"]) fun _ _ _ _ _ _ us hl => match us,hl with | [_,_],_ => rfl
 have F16:=fun_mk (st:=sPieceR) l16 c16 k16
 have m16:=PySem.W.mg_of X G a16
 have b16:=F16.binds (ps:=["land","start"]) fun _ _ _ _ _ _ us hl => match us,hl with | [_,_],_ => rfl
 have F17:=fun_mk (st:=sPieces) l17 c17 k17
 have m17:=PySem.W.mg_of X G a17
 have b17:=F17.binds (ps:=["mead","land"]) fun _ _ _ _ _ _ us hl => match us,hl with | [_,_],_ => rfl
 have F18:=fun_mk (st:=sOne) l18 c18 k18
 have m18:=PySem.W.mg_of X G a18
 have b18:=F18.binds (ps:=["land"]) fun _ _ _ _ _ _ us hl => match us,hl with | [_],_ => rfl
 have F19:=fun_mk (st:=sHangs) l19 c19 k19
 have m19:=PySem.W.mg_of X G a19
 have b19:=F19.binds (ps:=["mead","land"]) fun _ _ _ _ _ _ us hl => match us,hl with | [_,_],_ => rfl
 have F20:=fun_mk (st:=sCRoad) l20 c20 k20
 have m20:=PySem.W.mg_of X G a20
 have b20:=F20.binds (ps:=["mead"]) fun _ _ _ _ _ _ us hl => match us,hl with | [_],_ => rfl
 have F21:=fun_mk (st:=sSome) l21 c21 k21
 have m21:=PySem.W.mg_of X G a21
 have b21:=F21.binds (ps:=["land","cells"]) fun _ _ _ _ _ _ us hl => match us,hl with | [_,_],_ => rfl
 have F22:=fun_mk (st:=sAtRoad) l22 c22 k22
 have m22:=PySem.W.mg_of X G a22
 have b22:=F22.binds (ps:=["mead","land"]) fun _ _ _ _ _ _ us hl => match us,hl with | [_,_],_ => rfl
 have F23:=fun_mk (st:=sWorthOf) l23 c23 k23
 have m23:=PySem.W.mg_of X G a23
 have b23:=F23.binds (ps:=["mead","land"]) fun _ _ _ _ _ _ us hl => match us,hl with | [_,_],_ => rfl
 have F24:=fun_mk (st:=sCell) l24 c24 k24
 have m24:=PySem.W.mg_of X G a24
 have b24:=F24.binds (ps:=["_law_script","_law_k"]) fun _ _ _ _ _ _ us hl => match us,hl with | [_,_],_ => rfl
 have F25:=fun_mk (st:=sPen) l25 c25 k25
 have m25:=PySem.W.mg_of X G a25
 have b25:=F25.binds (ps:=["_law_cell_here"]) fun _ _ _ _ _ _ us hl => match us,hl with | [_],_ => rfl
 have F26:=fun_mk (st:=sDraw) l26 c26 k26
 have m26:=PySem.W.mg_of X G a26
 have b26:=F26.binds (ps:=["_law_pen_here","_law_many"]) fun _ _ _ _ _ _ us hl => match us,hl with | [_,_],_ => rfl
 have F27:=fun_mk (st:=sSame) l27 c27 k27
 have m27:=PySem.W.mg_of X G a27
 have b27:=F27.binds (ps:=["_law_thing_here","_law_due"]) fun _ _ _ _ _ _ us hl => match us,hl with | [_,_],_ => rfl
 have F28:=fun_mk (st:=sThing) l28 c28 k28
 have m28:=PySem.W.mg_of X G a28
 have b28:=F28.binds (ps:=["_law_pen_here","_law_deep"]) fun _ _ _ _ _ _ us hl => match us,hl with | [_,_],_ => rfl
 have F29:=fun_mk (st:=sMeadL) l29 c29 k29
 have m29:=PySem.W.mg_of X G a29
 have b29:=F29.binds (ps:=["_law_pen_here","_law_most"]) fun _ _ _ _ _ _ us hl => match us,hl with | [_,_],_ => rfl
 have F30:=fun_mk (st:=sLCells) l30 c30 k30
 have m30:=PySem.W.mg_of X G a30
 have b30:=F30.binds (ps:=["_law_mead_here"]) fun _ _ _ _ _ _ us hl => match us,hl with | [_],_ => rfl
 have F31:=fun_mk (st:=sNext) l31 c31 k31
 have m31:=PySem.W.mg_of X G a31
 have b31:=F31.binds (ps:=["_law_one","_law_other"]) fun _ _ _ _ _ _ us hl => match us,hl with | [_,_],_ => rfl
 have F32:=fun_mk (st:=sLPiece) l32 c32 k32
 have m32:=PySem.W.mg_of X G a32
 have b32:=F32.binds (ps:=["_law_land_here","_law_place"]) fun _ _ _ _ _ _ us hl => match us,hl with | [_,_],_ => rfl
 have F33:=fun_mk (st:=sLRoad) l33 c33 k33
 have m33:=PySem.W.mg_of X G a33
 have b33:=F33.binds (ps:=["_law_mead_here","_law_land_here"]) fun _ _ _ _ _ _ us hl => match us,hl with | [_,_],_ => rfl
 have F34:=fun_mk (st:=sLWorth) l34 c34 k34
 have m34:=PySem.W.mg_of X G a34
 have b34:=F34.binds (ps:=["_law_mead_here","_law_land_here"]) fun _ _ _ _ _ _ us hl => match us,hl with | [_,_],_ => rfl
 have F35:=fun_mk (st:=sLand) l35 c35 k35
 have m35:=PySem.W.mg_of X G a35
 have b35:=F35.binds (ps:=["_law_pen_here","_law_mead_here"]) fun _ _ _ _ _ _ us hl => match us,hl with | [_,_],_ => rfl
 have F36:=fun_mk (st:=sGood) l36 c36 k36
 have m36:=PySem.W.mg_of X G a36
 have b36:=F36.binds (ps:=["_law_mead_here","_law_thing_here"]) fun _ _ _ _ _ _ us hl => match us,hl with | [_,_],_ => rfl
 have F37:=fun_mk (st:=sBent) l37 c37 k37
 have m37:=PySem.W.mg_of X G a37
 have b37:=F37.binds (ps:=["_law_pen_here","_law_mead_here","_law_land_here"]) fun _ _ _ _ _ _ us hl => match us,hl with | [_,_,_],_ => rfl
 have F38:=fun_mk (st:=sTold) l38 c38 k38
 have m38:=PySem.W.mg_of X G a38
 have b38:=F38.binds (ps:=["_law_way","_law_mead_here","_law_land_here"]) fun _ _ _ _ _ _ us hl => match us,hl with | [_,_,_],_ => rfl
 have F39:=fun_mk (st:=sRight) l39 c39 k39
 have m39:=PySem.W.mg_of X G a39
 have b39:=F39.binds (ps:=["_law_mead_here","_law_thing_here"]) fun _ _ _ _ _ _ us hl => match us,hl with | [_,_],_ => rfl
 have F40:=fun_mk (st:=sLaw) l40 c40 k40
 have m40:=PySem.W.mg_of X G a40
 refine ⟨PySem.W.fnOf "law" "law" (defArgs sLaw) (defBody sLaw) (defScope sLaw) .none kV40 dc40 pm40 an40 cd40 ct40,fun s v => .of_eq rfl,fun base _ _ => ?_⟩
 have g0:FnOk l.prog w K mg base CX0 1 f0 _ ["thing"] spNumber:=ok_number F0 T
 have g2:FnOk l.prog w K mg base CX0 1 f2 _ ["thing","least","most"] spTuple:=ok_tuple F2 T
 have g1:FnOk l.prog w K mg base CX0 2 f1 _ ["thing","least","most"] spWithin:=ok_within F1 T F0 b0 m0
 have g5:FnOk l.prog w K mg base CX0 3 f5 _ ["thing"] spRow:=ok_row F5 T b2 m2 k2 g2 b1 m1 k1 g1
 have gPla:FnOk l.prog w K mg base CX0 1 f8 _ ["mead"] spPlaces:=ok_places F8 T
 have g6:FnOk l.prog w K mg base CX0 4 f6 _ ["thing"] spMead:=ok_mead F6 T b2 m2 k2 g2 b5 m5 k5 g5 b8 m8 k8 gPla
 have g8:FnOk l.prog w K mg base CX0 1 f8 _ ["mead"] (spGrid pos):=ok_placesG F8 T
 have g7:FnOk l.prog w K mg base CX0 5 f7 _ ["mead"] spCheck:=ok_check F7 ⟨m6,k6,b6,g6⟩
 have g9:FnOk l.prog w K mg base CX0 6 f9 _ ["mead"] (spGrid pos):=ok_cellsOf F9 ⟨m7,k7,b7,g7⟩ ⟨m8,k8,b8,g8⟩
 have g10:FnOk l.prog w K mg base CX0 6 f10 _ ["mead"] (spGrid road):=ok_roadsOf F10 T T2 ⟨m7,k7,b7,g7⟩
 have g3:FnOk l.prog w K mg base CX0 2 f3 _ ["thing"] spPair:=ok_pair F3 T ⟨m2,k2,b2,g2⟩ ⟨m0,k0,b0,g0⟩
 have g11:FnOk l.prog w K mg base CX0 3 f11 _ ["mead","thing"] spIsCell:=ok_isCell F11 ⟨m3,k3,b3,g3⟩ ⟨m8,k8,b8,g8⟩
 have g4:FnOk l.prog w K mg base CX0 1 f4 _ ["things"] spRising:=ok_rising F4 T T2
 have g14:FnOk l.prog w K mg base CX0 6 f14 _ ["mead","thing"] spIsLand:=ok_isLand F14 T ⟨m7,k7,b7,g7⟩ ⟨m11,k11,b11,g11⟩ ⟨m4,k4,b4,g4⟩
 have g15:FnOk l.prog w K mg base (CX1 l.prog w) 7 f15 _ ["mead","land"] (spChkLand cL):=ok_chkLand F15 ⟨m14,k14,b14,g14⟩ C.mL ⟨C.d.ex⟩
 have g13:FnOk l.prog w K mg base CX0 1 f13 _ ["place"] spBeside:=ok_beside F13
 have g16:FnOk l.prog w K mg base CX0 2 f16 _ ["land","start"] spPieceR:=ok_pieceR F16 T T2 ⟨m13,k13,b13,g13⟩
 have g17:FnOk l.prog w K mg base (CX1 l.prog w) 8 f17 _ ["mead","land"] (spLand cL tlPieces):=ok_pieces F17 T2 ⟨m15,k15,b15,g15⟩ ⟨m16,k16,b16,g16⟩
 have g18:FnOk l.prog w K mg base CX0 3 f18 _ ["land"] spOne:=ok_one F18 ⟨m16,k16,b16,g16⟩
 have g19:FnOk l.prog w K mg base (CX1 l.prog w) 8 f19 _ ["mead","land"] (spLand cL tlHangs):=ok_hangs F19 ⟨m15,k15,b15,g15⟩ ⟨m18,k18,b18,g18⟩
 have g20:FnOk l.prog w K mg base CX0 7 f20 _ ["mead"] spCRoad:=ok_cRoad F20 T2 ⟨m10,k10,b10,g10⟩ ⟨m9,k9,b9,g9⟩ ⟨m13,k13,b13,g13⟩
 have g21:FnOk l.prog w K mg base CX0 1 f21 _ ["land","cells"] spSome:=ok_some F21 T2
 have g22:FnOk l.prog w K mg base (CX1 l.prog w) 8 f22 _ ["mead","land"] (spLand cL tlRoad):=ok_atRoad F22 ⟨m15,k15,b15,g15⟩ ⟨m20,k20,b20,g20⟩ ⟨m21,k21,b21,g21⟩
 have g12:FnOk l.prog w K mg base CX0 1 f12 _ ["mead","places"] spWTogT:=ok_wtogT F12 T2
 have g23:FnOk l.prog w K mg base (CX1 l.prog w) 8 f23 _ ["mead","land"] (spLand cL tlWorth):=ok_worthOf F23 ⟨m15,k15,b15,g15⟩ ⟨m12,k12,b12,g12⟩
 have g24:FnOk l.prog w K mg base CX0 1 f24 _ ["_law_script","_law_k"] (spCell K):=ok_cell F24 T
 have g25:FnOk l.prog w K mg base CX0 1 f25 _ ["_law_cell_here"] spPen:=ok_pen F25 T
 have g26:FnOk l.prog w K mg base CX0 1 f26 _ ["_law_pen_here","_law_many"] spDraw:=ok_draw F26 T
 have g27:FnOk l.prog w K mg base CX0 5 f27 _ ["_law_thing_here","_law_due"] (spSame 4):=ok_same F27 T T2 m27 b27 4
 have g28:FnOk l.prog w K mg base CX0 9 f28 _ ["_law_pen_here","_law_deep"] (spThing 0):=ok_thing F28 T T2 m28 b28 b26 m26 k26 g26 7
 have g29:FnOk l.prog w K mg base CX0 2 f29 _ ["_law_pen_here","_law_most"] spMeadL:=ok_meadL F29 T T2 b26 m26 k26 g26
 have g30:FnOk l.prog w K mg base CX0 1 f30 _ ["_law_mead_here"] (spGrid pos):=ok_lcells F30 T
 have g31:FnOk l.prog w K mg base CX0 1 f31 _ ["_law_one","_law_other"] spNext:=ok_next F31 T2
 have g32:FnOk l.prog w K mg base CX0 2 f32 _ ["_law_land_here","_law_place"] spLPiece:=ok_lpiece F32 T T2 ⟨m31,k31,b31,g31⟩
 have g33:FnOk l.prog w K mg base CX0 2 f33 _ ["_law_mead_here","_law_land_here"] spLRoad:=ok_lroad F33 T ⟨m31,k31,b31,g31⟩
 have g34:FnOk l.prog w K mg base CX0 1 f34 _ ["_law_mead_here","_law_land_here"] spWTogT:=ok_lworth F34 T2
 have g35:FnOk l.prog w K mg base CX0 2 f35 _ ["_law_pen_here","_law_mead_here"] spLandL:=ok_land F35 T ⟨m26,k26,b26,g26⟩ ⟨m30,k30,b30,g30⟩
 have g36:FnOk l.prog w K mg base CX0 2 f36 _ ["_law_mead_here","_law_thing_here"] spIsLand:=ok_good F36 T T2 ⟨m30,k30,b30,g30⟩
 have g37:FnOk l.prog w K mg base CX0 2 f37 _ ["_law_pen_here","_law_mead_here","_law_land_here"] spBent:=ok_bent F37 T T2 ⟨m26,k26,b26,g26⟩
 have g38:FnOk l.prog w K mg base CX0 9 f38 _ ["_law_way","_law_mead_here","_law_land_here"] spTold:=ok_told F38 T C ⟨m19,k19,b19,g19⟩ ⟨m22,k22,b22,g22⟩ ⟨m23,k23,b23,g23⟩ ⟨m17,k17,b17,g17⟩
 have g39:FnOk l.prog w K mg base CX0 10 f39 _ ["_law_mead_here","_law_thing_here"] spRight:=ok_right F39 T T2 ⟨m36,k36,b36,g36⟩ ⟨m14,k14,b14,g14⟩ ⟨m32,k32,b32,g32⟩ ⟨m33,k33,b33,g33⟩ ⟨m34,k34,b34,g34⟩ ⟨m38,k38,b38,g38⟩ ⟨m27,k27,b27,g27⟩
 exact ok_law F40 T T2 ⟨m24,k24,b24,g24⟩ ⟨m25,k25,b25,g25⟩ ⟨m29,k29,b29,g29⟩ ⟨m30,k30,b30,g30⟩ ⟨m35,k35,b35,g35⟩ ⟨m37,k37,b37,g37⟩ ⟨m28,k28,b28,g28⟩ ⟨m39,k39,b39,g39⟩
theorem walk {l:PySem.W.OpenLaw} {q:Program} {loose:List Str} {XP:(Str→Option Value)→Heap→Prop} {YP:World→Heap→Prop} {d:DefRec} {K:Params→PySem.W.Frag} (hn:l.most = some 63) (hdf:d.params.defaults = [])
  (hY:∀ (w:World) (h:Heap),YP w h→(K w.params).In h)
  (F:∀ (w:World) (mg:Str→Option Value) (fa:Addr) (h:Heap),(K w.params).In h→h.Ns mainGlobals mg→mg d.name = some (.ref fa) →
   ∃ fd:FuncData,(∀ (s:Shared) (u:Value),BindsTo s fd ⟨[u],[]⟩ [("_law_script",u)])∧∀ base:Heap,(K w.params).In base→base.Ns mainGlobals mg→FnOk l.prog w (K w.params) mg base CX0 11 fa fd ["_law_script"] (spLaw (K w.params))) :
  PySem.W.WalkO q loose XP YP l.row.toRowW d [] (fun f vs => PySem.call f vs) :=
 L2.walk_of (n:=63) (k:=11) (x:="_law_script") (CX:=fun _ => CX0) (sp:=fun w => spLaw (K w.params)) hn (by decide) hdf ⟨rfl,by decide,by decide,rfl⟩ hY F (fun _ _ a ns hl _ hS => ⟨a,ns,rfl,hS,hl,fun _ => rfl⟩) fun _ _ _ _ _ z => z
end M43
open PySem PySem.W PyProof.Rows
namespace PySem.W.Fast
theorem tw13709777199819141213:True:=⟨⟩
theorem tw16416501388374521868:True:=⟨⟩
theorem tw18338297235326818831:True:=⟨⟩
theorem tw2145837102746196816:True:=⟨⟩
theorem tw12175557944064925859:True:=⟨⟩
theorem tw9017042193688278680:True:=⟨⟩
theorem tw31996970492702598:True:=⟨⟩
theorem tw1668815332694917081:True:=⟨⟩
theorem tw9433864241261956217:True:=⟨⟩
theorem tw15108752152174170869:True:=⟨⟩
theorem tw15215006233376701966:True:=⟨⟩
theorem tw16623451017565617189:True:=⟨⟩
theorem tw185044024654559335:True:=⟨⟩
theorem tw11494411282642161534:True:=⟨⟩
theorem tw5497985281593337764:True:=⟨⟩
theorem tw13839454991263988195:True:=⟨⟩
theorem tw6372658681291753290:True:=⟨⟩
theorem tw1180780620735504757:True:=⟨⟩
theorem tw12993847073327289504:True:=⟨⟩
theorem tw2564284759839049648:True:=⟨⟩
theorem tw17296006370298664610:True:=⟨⟩
theorem tw11824350383747119900:True:=⟨⟩
theorem tw6706547901138213254:True:=⟨⟩
theorem tw10164152650723170892:True:=⟨⟩
theorem tw9989431813998167621:True:=⟨⟩
theorem tw16969669474549331740:True:=⟨⟩
theorem tw790805785096241292:True:=⟨⟩
theorem tw3697286591858523640:True:=⟨⟩
theorem tw13569142441464419101:True:=⟨⟩
theorem tw6614594008210728917:True:=⟨⟩
theorem tw11419447301682562535:True:=⟨⟩
theorem tw2297770929613584394:True:=⟨⟩
theorem tw11798497169671970303:True:=⟨⟩
theorem tw6858658025182019573:True:=⟨⟩
theorem tw11892714296424949128:True:=⟨⟩
theorem tw5992886484533328495:True:=⟨⟩
theorem tw12321283764774542983:True:=⟨⟩
theorem tw6487855427943719560:True:=⟨⟩
theorem tw3817069608411026967:True:=⟨⟩
theorem tw5242125923789473048:True:=⟨⟩
theorem tw8882777332797237620:True:=⟨⟩
theorem tw5079494125905878183:True:=⟨⟩
theorem tw17742811091291611254:True:=⟨⟩
theorem tw2541548747823316235:True:=⟨⟩
theorem tw8226999962702910314:True:=⟨⟩
theorem tw9839257510007051394:True:=⟨⟩
theorem tw2992250245572407963:True:=⟨⟩
theorem tw3676962837449870786:True:=⟨⟩
theorem tw11724183121504037629:True:=⟨⟩
theorem tw14394125389666609609:True:=⟨⟩
theorem tw6193064293545516574:True:=⟨⟩
theorem tw17478612353012820033:True:=⟨⟩
theorem tw11357295431480551580:True:=⟨⟩
theorem tw8213887473873000434:True:=⟨⟩
theorem tw14717209631630033177:True:=⟨⟩
theorem tw7699525807151770951:True:=⟨⟩
theorem tw6261921040526956650:True:=⟨⟩
theorem tw3413203496520064272:True:=⟨⟩
theorem tw6908878107984991287:True:=⟨⟩
theorem tw17366080810119857753:True:=⟨⟩
theorem tw13091439838009870579:True:=⟨⟩
theorem tw10366308830043768419:True:=⟨⟩
theorem tw13627501994097439804:True:=⟨⟩
theorem tw11346588094171716379:True:=⟨⟩
theorem tw17065708272910548502:True:=⟨⟩
theorem tw4292009241251130343:True:=⟨⟩
theorem tw8105240844046419213:True:=⟨⟩
theorem tw2283955367049214135:True:=⟨⟩
theorem tw14013239780475419312:True:=⟨⟩
theorem tw11102258435979610886:True:=⟨⟩
theorem tw15078143588726957226:True:=⟨⟩
theorem tw7443419303493331379:True:=⟨⟩
theorem tw2740902512008847678:True:=⟨⟩
theorem tw12792274630226710073:True:=⟨⟩
theorem tw1498460475043006896:True:=⟨⟩
theorem tw8467146356101150771:True:=⟨⟩
theorem tw8280674575811469962:True:=⟨⟩
theorem tw15203503817274601011:True:=⟨⟩
theorem tw15906784151299726813:True:=⟨⟩
theorem tw7629603349920032959:True:=⟨⟩
theorem tw17828356665160114439:True:=⟨⟩
theorem tw16764130962459423598:True:=⟨⟩
theorem tw11158338169428470133:True:=⟨⟩
theorem tw10512389244850846429:True:=⟨⟩
theorem tw2848899143648932196:True:=⟨⟩
theorem tw15599200914478698234:True:=⟨⟩
theorem tw17963969443786816788:True:=⟨⟩
theorem tw7747606312119336580:True:=⟨⟩
theorem tw12438435649808256620:True:=⟨⟩
theorem tw9008718472201995755:True:=⟨⟩
theorem tw6059145796053249325:True:=⟨⟩
theorem tw9641135871789955571:True:=⟨⟩
theorem tw12846432715990890556:True:=⟨⟩
theorem tw10859085138044217205:True:=⟨⟩
theorem tw9072871945373137735:True:=⟨⟩
theorem tw6633535065943605859:True:=⟨⟩
theorem tw12675377404847724323:True:=⟨⟩
theorem tw1842231588437970043:True:=⟨⟩
theorem tw14335535084709321149:True:=⟨⟩
theorem tw2298691955718158133:True:=⟨⟩
theorem tw16698106800053657242:True:=⟨⟩
theorem tw3367184009542187171:True:=⟨⟩
theorem tw17606811462333038582:True:=⟨⟩
theorem tw10739327640116285013:True:=⟨⟩
theorem tw15422907155112341440:True:=⟨⟩
theorem tw10470405932286419153:True:=⟨⟩
theorem tw12312000720185129925:True:=⟨⟩
theorem tw15961327612267204016:True:=⟨⟩
theorem tw7006996344881592381:True:=⟨⟩
theorem tw7597945768850382596:True:=⟨⟩
theorem tw9221303484086598715:True:=⟨⟩
theorem tw9697442390851953565:True:=⟨⟩
theorem tw15763673952318167351:True:=⟨⟩
theorem tw5622043640099395210:True:=⟨⟩
theorem tw8569900779261510308:True:=⟨⟩
theorem tw2293131624921341704:True:=⟨⟩
theorem tw2988417874667649920:True:=⟨⟩
theorem tw14873353877427694599:True:=⟨⟩
theorem tw11137751335410611895:True:=⟨⟩
theorem tw3553650834630878175:True:=⟨⟩
theorem tw15854634429496564305:True:=⟨⟩
theorem tw10675186750341118227:True:=⟨⟩
theorem tw1227862844590496428:True:=⟨⟩
theorem tw6025329782726743391:True:=⟨⟩
theorem tw4351087621718606543:True:=⟨⟩
theorem tw17304767242772115429:True:=⟨⟩
theorem tw868745199611661238:True:=⟨⟩
theorem tw17526483764423215344:True:=⟨⟩
theorem tw11019127389833606851:True:=⟨⟩
theorem tw14722348043057705963:True:=⟨⟩
theorem tw2164324329294348106:True:=⟨⟩
theorem tw6684935483211257747:True:=⟨⟩
theorem tw2099531119854267081:True:=⟨⟩
theorem tw11185712296232754828:True:=⟨⟩
theorem tw7336021037279808438:True:=⟨⟩
theorem tw11380340189298922360:True:=⟨⟩
theorem tw17562960208430208944:True:=⟨⟩
theorem tw15485080867083531778:True:=⟨⟩
theorem tw3902615594881357055:True:=⟨⟩
theorem tw2600339626953692061:True:=⟨⟩
theorem tw3410185130178788836:True:=⟨⟩
theorem tw14167716335923663201:True:=⟨⟩
theorem tw10722535777690413558:True:=⟨⟩
theorem tw12300572643993085381:True:=⟨⟩
theorem tw9931695204195343754:True:=⟨⟩
theorem tw17872028369484013872:True:=⟨⟩
theorem tw5683808264630303821:True:=⟨⟩
theorem tw8989861860595003116:True:=⟨⟩
theorem tw7075111314080186668:True:=⟨⟩
theorem tw8085070394912002032:True:=⟨⟩
theorem tw5558800275976789077:True:=⟨⟩
theorem tw18261119280110659035:True:=⟨⟩
theorem tw4567591663109207832:True:=⟨⟩
theorem tw9501893784472806251:True:=⟨⟩
theorem tw11828252215735017840:True:=⟨⟩
theorem tw10493248941839954959:True:=⟨⟩
theorem tw17278456172429477665:True:=⟨⟩
theorem tw3732318768332425056:True:=⟨⟩
theorem tw11809011614876264014:True:=⟨⟩
theorem tw13006387031497570150:True:=⟨⟩
theorem tw7922124719478365359:True:=⟨⟩
theorem tw12719076541396351825:True:=⟨⟩
theorem tw9719715407282388880:True:=⟨⟩
theorem tw1842365102443839159:True:=⟨⟩
theorem tw16670339469458825806:True:=⟨⟩
theorem tw12129223795500124158:True:=⟨⟩
theorem tw12914328495535687061:True:=⟨⟩
theorem tw5810526935271475631:True:=⟨⟩
theorem tw16104550489246361203:True:=⟨⟩
theorem tw7946188158228229312:True:=⟨⟩
theorem tw10099290560964690209:True:=⟨⟩
theorem tw16473336232951440486:True:=⟨⟩
theorem tw17061261192679852675:True:=⟨⟩
theorem tw366292937282833350:True:=⟨⟩
theorem tw5428819194102026477:True:=⟨⟩
theorem tw14013904408025071401:True:=⟨⟩
theorem tw6836465815150972850:True:=⟨⟩
theorem tw11462535232669374740:True:=⟨⟩
theorem tw10863220887121531565:True:=⟨⟩
theorem tw17506865796509727490:True:=⟨⟩
theorem tw6031503664355527732:True:=⟨⟩
theorem tw1150564728848261301:True:=⟨⟩
theorem tw3847246327743979399:True:=⟨⟩
theorem tw9972714182974498248:True:=⟨⟩
theorem tw5242282830853507482:True:=⟨⟩
theorem tw15775858780106032895:True:=⟨⟩
theorem tw11965032066099628852:True:=⟨⟩
theorem tw2337488887903275658:True:=⟨⟩
theorem tw4350143532747231194:True:=⟨⟩
theorem tw15676443268149831746:True:=⟨⟩
theorem tw14182658551196800114:True:=⟨⟩
theorem tw7887831244379818127:True:=⟨⟩
theorem tw18249018269645261118:True:=⟨⟩
theorem tw8031928435815435820:True:=⟨⟩
theorem tw8703505543700383516:True:=⟨⟩
theorem tw14296399451246421345:True:=⟨⟩
theorem tw5346425128793997070:True:=⟨⟩
theorem tw12820561751934139233:True:=⟨⟩
theorem tw14596652542321200772:True:=⟨⟩
theorem tw2836084992818129968:True:=⟨⟩
theorem tw42071359474182142:True:=⟨⟩
theorem tw14263713993919830761:True:=⟨⟩
theorem tw8568088943691723680:True:=⟨⟩
theorem tw16370487532366965233:True:=⟨⟩
theorem tw12560107052995286436:True:=⟨⟩
theorem tw6921437229253740803:True:=⟨⟩
theorem tw6482420055020488944:True:=⟨⟩
theorem tw11975755814790913366:True:=⟨⟩
theorem tw7754200430131162683:True:=⟨⟩
theorem tw700509474443499056:True:=⟨⟩
theorem tw2085373851253175952:True:=⟨⟩
theorem tw16812348789564025867:True:=⟨⟩
theorem tw16233430517108471782:True:=⟨⟩
theorem tw4270160220834125696:True:=⟨⟩
theorem tw1441587994392806552:True:=⟨⟩
theorem tw5787403821114423423:True:=⟨⟩
theorem tw13980102342188173231:True:=⟨⟩
theorem tw1009345036085145221:True:=⟨⟩
theorem tw8330559857360686508:True:=⟨⟩
theorem tw10394615613539407271:True:=⟨⟩
theorem tw3872246987908150260:True:=⟨⟩
theorem tw4562732117991488926:True:=⟨⟩
theorem tw17667399324587911692:True:=⟨⟩
theorem tw14950373668629111194:True:=⟨⟩
theorem tw6081123983122631775:True:=⟨⟩
theorem tw15066798444696391603:True:=⟨⟩
theorem tw6092511436862124476:True:=⟨⟩
theorem tw12375118542201368134:True:=⟨⟩
theorem tw2418130853770393116:True:=⟨⟩
theorem tw4088469333712457275:True:=⟨⟩
theorem tw12354122997463454389:True:=⟨⟩
theorem tw1844505283049894367:True:=⟨⟩
theorem tw1042543832710446581:True:=⟨⟩
theorem tw2969947371193970630:True:=⟨⟩
theorem tw12988361013937675166:True:=⟨⟩
theorem tw11191952358439007411:True:=⟨⟩
theorem tw14269680587052453358:True:=⟨⟩
theorem tw9893991858929802617:True:=⟨⟩
theorem tw3838124536573885337:True:=⟨⟩
theorem tw15567473021554033886:True:=⟨⟩
theorem tw14833461081026196976:True:=⟨⟩
theorem tw12004464725603662390:True:=⟨⟩
theorem tw8974864294973845163:True:=⟨⟩
theorem tw12069895838108523927:True:=⟨⟩
theorem tw17432535821171974000:True:=⟨⟩
theorem tw528734158902976457:True:=⟨⟩
theorem tw7267615559705463957:True:=⟨⟩
theorem tw11722899580072554060:True:=⟨⟩
theorem tw12756889979458827247:True:=⟨⟩
theorem tw18305229822907951279:True:=⟨⟩
theorem tw6040283698553020606:True:=⟨⟩
theorem tw7861221120636397281:True:=⟨⟩
theorem tw7902663696193103880:True:=⟨⟩
theorem tw13715604209998060113:True:=⟨⟩
theorem tw4238290571370246633:True:=⟨⟩
theorem tw5313943202703095879:True:=⟨⟩
theorem tw2172832288518626819:True:=⟨⟩
theorem tw2798664834379838782:True:=⟨⟩
theorem tw2062004765684176983:True:=⟨⟩
theorem tw638376900776645480:True:=⟨⟩
theorem tw4230781535404245793:True:=⟨⟩
theorem tw6469533362890757400:True:=⟨⟩
theorem tw9647308881798329814:True:=⟨⟩
theorem tw10123820638286003477:True:=⟨⟩
theorem tw7939476252719191148:True:=⟨⟩
theorem tw3478619323898829912:True:=⟨⟩
theorem tw14038744121423832746:True:=⟨⟩
theorem tw18231847937529386855:True:=⟨⟩
theorem tw13235251744016389731:True:=⟨⟩
theorem tw2018445279154002347:True:=⟨⟩
theorem tw13943409975730382078:True:=⟨⟩
theorem tw4139192010308063799:True:=⟨⟩
theorem tw8705407203664859429:True:=⟨⟩
theorem tw2412200014467088767:True:=⟨⟩
theorem tw13850687575411363178:True:=⟨⟩
theorem tw10640744139954917011:True:=⟨⟩
theorem tw9640246957068320126:True:=⟨⟩
theorem tw5806152250102802342:True:=⟨⟩
theorem tw17490906486659920881:True:=⟨⟩
theorem tw15064230605153032289:True:=⟨⟩
end PySem.W.Fast
set_option maxRecDepth 100000 in
set_option maxHeartbeats 0 in
theorem PySem.Challenge.cw_meadshares_k43_lands_holds : PySem.Challenge.rw_meadshares_k43_lands.Holds := by
 w_on; o_law; k_head; (case hw => w_witness2)
 k_fill
 refine M43.walk (l:=PySem.Challenge.rw_meadshares_k43_lands) rfl rfl (fun w h Y => PySem.W.kIn_of Y) ?F
 case F =>
  intro w mg fa h KX G hmg
  refine' M43.all_mk KX G hmg ?a0 ?l0 ?c0 ?k0 ?a1 ?l1 ?c1 ?k1 ?a2 ?l2 ?c2 ?k2 ?a3 ?l3 ?c3 ?k3 ?a4 ?l4 ?c4 ?k4 ?a5 ?l5 ?c5 ?k5 ?a6 ?l6 ?c6 ?k6 ?a7 ?l7 ?c7 ?k7 ?a8 ?l8 ?c8 ?k8 ?a9 ?l9 ?c9 ?k9 ?a10 ?l10 ?c10 ?k10 ?a11 ?l11 ?c11 ?k11 ?a12 ?l12 ?c12 ?k12 ?a13 ?l13 ?c13 ?k13 ?a14 ?l14 ?c14 ?k14 ?a15 ?l15 ?c15 ?k15 ?a16 ?l16 ?c16 ?k16 ?a17 ?l17 ?c17 ?k17 ?a18 ?l18 ?c18 ?k18 ?a19 ?l19 ?c19 ?k19 ?a20 ?l20 ?c20 ?k20 ?a21 ?l21 ?c21 ?k21 ?a22 ?l22 ?c22 ?k22 ?a23 ?l23 ?c23 ?k23 ?a24 ?l24 ?c24 ?k24 ?a25 ?l25 ?c25 ?k25 ?a26 ?l26 ?c26 ?k26 ?a27 ?l27 ?c27 ?k27 ?a28 ?l28 ?c28 ?k28 ?a29 ?l29 ?c29 ?k29 ?a30 ?l30 ?c30 ?k30 ?a31 ?l31 ?c31 ?k31 ?a32 ?l32 ?c32 ?k32 ?a33 ?l33 ?c33 ?k33 ?a34 ?l34 ?c34 ?k34 ?a35 ?l35 ?c35 ?k35 ?a36 ?l36 ?c36 ?k36 ?a37 ?l37 ?c37 ?k37 ?a38 ?l38 ?c38 ?k38 ?a39 ?l39 ?c39 ?k39 ?a40 ?l40 ?c40 ?k40 ?v0 ?v1 ?v2 ?v3 ?v4 ?v5 ?z0 ?z1 ?z2 ?z3 ?z4 ?z5 ?z6 ?z7 ?z8 ?z9 ?z10 ?z11 ?z12 ?z13 ?z14 ?z15 ?z16 ?e0 ?e1 ?e2 ?e3 ?x0 ?x1 ?x3 ?x4 ?x5 ?x6 ?x7 ?y1 ?y2 ?y3 ?y4 ?y5 ?y6 ?y7
  (case a0 => k_is)
  (case l0 => k_is)
  (case c0 => k_is)
  (case k0 => k_is)
  (case a1 => k_is)
  (case l1 => k_is)
  (case c1 => k_is)
  (case k1 => k_is)
  (case a2 => k_is)
  (case l2 => k_is)
  (case c2 => k_is)
  (case k2 => k_is)
  (case a3 => k_is)
  (case l3 => k_is)
  (case c3 => k_is)
  (case k3 => k_is)
  (case a4 => k_is)
  (case l4 => k_is)
  (case c4 => k_is)
  (case k4 => k_is)
  (case a5 => k_is)
  (case l5 => k_is)
  (case c5 => k_is)
  (case k5 => k_is)
  (case a6 => k_is)
  (case l6 => k_is)
  (case c6 => k_is)
  (case k6 => k_is)
  (case a7 => k_is)
  (case l7 => k_is)
  (case c7 => k_is)
  (case k7 => k_is)
  (case a8 => k_is)
  (case l8 => k_is)
  (case c8 => k_is)
  (case k8 => k_is)
  (case a9 => k_is)
  (case l9 => k_is)
  (case c9 => k_is)
  (case k9 => k_is)
  (case a10 => k_is)
  (case l10 => k_is)
  (case c10 => k_is)
  (case k10 => k_is)
  (case a11 => k_is)
  (case l11 => k_is)
  (case c11 => k_is)
  (case k11 => k_is)
  (case a12 => k_is)
  (case l12 => k_is)
  (case c12 => k_is)
  (case k12 => k_is)
  (case a13 => k_is)
  (case l13 => k_is)
  (case c13 => k_is)
  (case k13 => k_is)
  (case a14 => k_is)
  (case l14 => k_is)
  (case c14 => k_is)
  (case k14 => k_is)
  (case a15 => k_is)
  (case l15 => k_is)
  (case c15 => k_is)
  (case k15 => k_is)
  (case a16 => k_is)
  (case l16 => k_is)
  (case c16 => k_is)
  (case k16 => k_is)
  (case a17 => k_is)
  (case l17 => k_is)
  (case c17 => k_is)
  (case k17 => k_is)
  (case a18 => k_is)
  (case l18 => k_is)
  (case c18 => k_is)
  (case k18 => k_is)
  (case a19 => k_is)
  (case l19 => k_is)
  (case c19 => k_is)
  (case k19 => k_is)
  (case a20 => k_is)
  (case l20 => k_is)
  (case c20 => k_is)
  (case k20 => k_is)
  (case a21 => k_is)
  (case l21 => k_is)
  (case c21 => k_is)
  (case k21 => k_is)
  (case a22 => k_is)
  (case l22 => k_is)
  (case c22 => k_is)
  (case k22 => k_is)
  (case a23 => k_is)
  (case l23 => k_is)
  (case c23 => k_is)
  (case k23 => k_is)
  (case a24 => k_is)
  (case l24 => k_is)
  (case c24 => k_is)
  (case k24 => k_is)
  (case a25 => k_is)
  (case l25 => k_is)
  (case c25 => k_is)
  (case k25 => k_is)
  (case a26 => k_is)
  (case l26 => k_is)
  (case c26 => k_is)
  (case k26 => k_is)
  (case a27 => k_is)
  (case l27 => k_is)
  (case c27 => k_is)
  (case k27 => k_is)
  (case a28 => k_is)
  (case l28 => k_is)
  (case c28 => k_is)
  (case k28 => k_is)
  (case a29 => k_is)
  (case l29 => k_is)
  (case c29 => k_is)
  (case k29 => k_is)
  (case a30 => k_is)
  (case l30 => k_is)
  (case c30 => k_is)
  (case k30 => k_is)
  (case a31 => k_is)
  (case l31 => k_is)
  (case c31 => k_is)
  (case k31 => k_is)
  (case a32 => k_is)
  (case l32 => k_is)
  (case c32 => k_is)
  (case k32 => k_is)
  (case a33 => k_is)
  (case l33 => k_is)
  (case c33 => k_is)
  (case k33 => k_is)
  (case a34 => k_is)
  (case l34 => k_is)
  (case c34 => k_is)
  (case k34 => k_is)
  (case a35 => k_is)
  (case l35 => k_is)
  (case c35 => k_is)
  (case k35 => k_is)
  (case a36 => k_is)
  (case l36 => k_is)
  (case c36 => k_is)
  (case k36 => k_is)
  (case a37 => k_is)
  (case l37 => k_is)
  (case c37 => k_is)
  (case k37 => k_is)
  (case a38 => k_is)
  (case l38 => k_is)
  (case c38 => k_is)
  (case k38 => k_is)
  (case a39 => k_is)
  (case l39 => k_is)
  (case c39 => k_is)
  (case k39 => k_is)
  (case a40 => k_is)
  (case l40 => k_is)
  (case c40 => k_is)
  (case k40 => k_is)
  (case v0 => k_is)
  (case v1 => k_is)
  (case v2 => k_is)
  (case v3 => k_is)
  (case v4 => k_is)
  (case v5 => k_is)
  (case z0 => k_is)
  (case z1 => k_is)
  (case z2 => k_is)
  (case z3 => k_is)
  (case z4 => k_is)
  (case z5 => k_is)
  (case z6 => k_is)
  (case z7 => k_is)
  (case z8 => k_is)
  (case z9 => k_is)
  (case z10 => k_is)
  (case z11 => k_is)
  (case z12 => k_is)
  (case z13 => k_is)
  (case z14 => k_is)
  (case z15 => k_is)
  (case z16 => k_is)
  (case e0 => k_is)
  (case e1 => k_is)
  (case e2 => k_is)
  (case e3 => k_is)
  (case x0 => k_exc)
  (case x1 => k_is)
  (case x3 => kit_is)
  (case x4 => kit_is)
  (case x5 => kit_is)
  (case x6 => kit_is)
  (case x7 => first | rfl | decide)
  (case y1 => k_is)
  (case y2 => k_is)
  (case y3 => k_is)
  (case y4 => k_is)
  (case y5 => k_is)
  (case y6 => k_is)
  (case y7 => k_is)
