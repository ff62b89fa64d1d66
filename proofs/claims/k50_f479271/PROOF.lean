import PyProof.Rows.All
import Wide.All
import OpenK.AllK
import Wide.FinOn
import Lean
import PyProof.EqAt
import PyProof.EqKinds
import PyProof.TupleCall
import KE.LcSums
import KE.KDictOf
import PyProof.ZipIter
import KE.KTryMore
import KE.KSortTup
import PyProof.DictItems
import PyProof.Rows.SetFrom
import PyProof.CollectWalk
import KE.KSortedM
import PyProof.NeKinds
import KE.RegKIsAll
import PySem.Challenge.RW_meadshares_k50_whole_walks_close
set_option Elab.async false
set_option linter.all false
set_option maxRecDepth 100000
local macro_rules | `(tactic| omega) => `(tactic| lia)
namespace L2
open PySem PySem.Spec PyProof.Rows
noncomputable abbrev Key := Sum Int Str
noncomputable def keyIs : Key → Value → Bool
  | .inl k, v => Value.isInt k v
  | .inr x, v => Value.isStrOf x v
noncomputable def keyH (w : World) : Key → Int
  | .inl k => hashInt k
  | .inr x => hashStr w x
theorem keyIs_shape : ∀ {k : Key} {v : Value}, keyIs k v = true → (∃ i t, k = Sum.inl i ∧ v = Value.int i t) ∨ (∃ x t, k = Sum.inr x ∧ v = Value.str x t)
  | .inl i, v, h => by
    obtain ⟨t, e⟩ := Value.isInt_shape (k := i) (v := v) h
    exact .inl ⟨i, t, rfl, e⟩
  | .inr x, v, h => by
    obtain ⟨t, e⟩ := Value.isStrOf_shape (x := x) (v := v) h
    exact .inr ⟨x, t, rfl, e⟩
theorem keyIs_int (i : Int) (t : Tok) : keyIs (.inl i) (.int i t) = true := by simp [keyIs, Value.isInt]
theorem keyIs_str (x : Str) (t : Tok) : keyIs (.inr x) (.str x t) = true := by simp [keyIs, Value.isStrOf]
theorem key_ll (a b : Int) : decide ((Sum.inl a : Key) = Sum.inl b) = (a == b) := by
  by_cases e : a = b
  · subst e; simp
  · have h : ¬ (Sum.inl a : Key) = Sum.inl b := fun q => e (Sum.inl.inj q)
    rw [decide_eq_false h]
    exact (beq_eq_false_iff_ne.mpr e).symm
theorem key_rr (a b : Str) : decide ((Sum.inr a : Key) = Sum.inr b) = decide (a = b) := by
  by_cases e : a = b
  · subst e; simp
  · have h : ¬ (Sum.inr a : Key) = Sum.inr b := fun q => e (Sum.inr.inj q)
    rw [decide_eq_false h, decide_eq_false e]
theorem key_lr (a : Int) (b : Str) : decide ((Sum.inl a : Key) = Sum.inr b) = false := decide_eq_false (fun q => nomatch q)
theorem key_rl (a : Str) (b : Int) : decide ((Sum.inr a : Key) = Sum.inl b) = false := decide_eq_false (fun q => nomatch q)
noncomputable def mixKind (prog : Program) (w : World) : PySem.KeyKind prog w Key where
  is := keyIs
  hash := keyH w
  inj := fun v a b ha hb => by
    rcases keyIs_shape ha with ⟨i, t, rfl, rfl⟩ | ⟨x, t, rfl, rfl⟩
    · rcases keyIs_shape hb with ⟨j, u, rfl, e⟩ | ⟨y, u, rfl, e⟩
      · injection e with e1 _; rw [e1]
      · exact nomatch e
    · rcases keyIs_shape hb with ⟨j, u, rfl, e⟩ | ⟨y, u, rfl, e⟩
      · exact nomatch e
      · injection e with e1 _; rw [e1]
  byValue := fun k v h => by
    rcases keyIs_shape h with ⟨i, t, rfl, rfl⟩ | ⟨x, t, rfl, rfl⟩ <;> rfl
  pyHash := fun hv h => by
    rcases keyIs_shape hv with ⟨i, t, rfl, rfl⟩ | ⟨x, t, rfl, rfl⟩
    · exact wpAny_pyHash_int h
    · exact wpAny_pyHash_str h
  eqBool := fun hu hv h => by
    rcases keyIs_shape hu with ⟨i, t, rfl, rfl⟩ | ⟨x, t, rfl, rfl⟩
    · rcases keyIs_shape hv with ⟨j, u, rfl, rfl⟩ | ⟨y, u, rfl, rfl⟩
      · rw [key_ll] at h; exact wpAny_eqBool_int h
      · rw [key_lr] at h; exact SeqAt.EqAt.int_str i t y u _ _ _ _ h
    · rcases keyIs_shape hv with ⟨j, u, rfl, rfl⟩ | ⟨y, u, rfl, rfl⟩
      · rw [key_rl] at h; exact SeqAt.EqAt.str_int x t j u _ _ _ _ h
      · rw [key_rr] at h; exact wpAny_eqBool_str h
  «strs» := fun k x t v h => by
    rcases keyIs_shape h with ⟨i, u, rfl, e⟩ | ⟨y, u, rfl, e⟩
    · exact nomatch e
    · injection e with e1 _
      subst e1
      cases v <;> rfl
theorem mixKind_int (prog : Program) (w : World) (i : Int) (t : Tok) : (mixKind prog w).is (.inl i) (.int i t) = true := keyIs_int i t
theorem mixKind_str (prog : Program) (w : World) (x : Str) (t : Tok) : (mixKind prog w).is (.inr x) (.str x t) = true := keyIs_str x t
end L2
namespace L2
open PySem PySem.Spec PyProof.Rows
inductive V where
  | non | bl (b : Bool) | int (i : Int) | str (x : Str) | byt (b : Array UInt8) | flt (b : UInt64) | ref (a : Addr) | ty (n : String)
  deriving DecidableEq
noncomputable def RelV : V → Value → Prop
  | .non, u => u = Value.none
  | .bl b, u => u = Value.bool b
  | .int i, u => ∃ t, u = Value.int i t
  | .str x, u => ∃ t, u = Value.str x t
  | .byt b, u => ∃ t, u = Value.bytes b t
  | .flt b, u => ∃ t, u = Value.float b t
  | .ref a, u => u = Value.ref a
  | .ty n, u => u = Value.type n
noncomputable abbrev Vals : List V → List Value → Prop := Paired RelV
theorem Vals.length {xs : List V} {us : List Value} (r : Vals xs us) : xs.length = us.length := Paired.length r
theorem Vals.get : ∀ {xs : List V} {us : List Value} {i : Nat} {x : V}, Vals xs us → xs[i]? = some x → ∃ u, us[i]? = some u ∧ RelV x u
  | _, _, _, _, .nil, e => by simp at e
  | _, _, 0, _, .cons r _, e => by simp at e; subst e; exact ⟨_, rfl, r⟩
  | _, _, i + 1, x, .cons _ t, e => by
    obtain ⟨u, h1, h2⟩ := Vals.get (i := i) (x := x) t (by simpa using e)
    exact ⟨u, by simpa using h1, h2⟩
theorem Vals.set {x : V} {u : Value} (r : RelV x u) : ∀ {xs : List V} {us : List Value} (i : Nat), Vals xs us → Vals (xs.set i x) (us.set i u)
  | _, _, _, .nil => .nil
  | _, _, 0, .cons _ t => .cons r t
  | _, _, i + 1, .cons q t => .cons q (Vals.set r i t)
theorem Vals.append : ∀ {xs ys : List V} {us ws : List Value}, Vals xs us → Vals ys ws → Vals (xs ++ ys) (us ++ ws)
  | _, _, _, _, .nil, s => s
  | _, _, _, _, .cons r t, s => .cons r (Vals.append t s)
theorem Vals.take : ∀ {xs : List V} {us : List Value} (n : Nat), Vals xs us → Vals (xs.take n) (us.take n)
  | _, _, 0, _ => .nil
  | _, _, _ + 1, .nil => .nil
  | _, _, n + 1, .cons r t => .cons r (Vals.take n t)
theorem Vals.drop : ∀ {xs : List V} {us : List Value} (n : Nat), Vals xs us → Vals (xs.drop n) (us.drop n)
  | _, _, 0, r => r
  | _, _, _ + 1, .nil => .nil
  | _, _, n + 1, .cons _ t => Vals.drop n t
noncomputable def RelO : Option V → Option Value → Prop
  | some v, some u => RelV v u
  | none, none => True
  | _, _ => False
noncomputable def KV {κ : Type} : List (κ × V) → List (κ × Value) → Prop := Paired fun (p : κ × V) (q : κ × Value) => p.1 = q.1 ∧ RelV p.2 q.2
noncomputable def kV : Key → V
  | .inl i => .int i
  | .inr x => .str x
inductive HO where
    | lst (xs : List V)
    | tup (xs : List V)
    | dK (kvs : List (Key × V)) | dT (kvs : List (List Key × V))
    | set (S : Int → Bool) (n : Nat)
    | ins (C dx : Addr) (fs : List (Str × V))
    | own (x : Addr)
    | xd (fs : List (Str × V))
    | met (f x : Addr)
    | rng (lo hi : Int)
    | frz (o : Obj) (u : HO)
    | tbl (ps : Array Value)
    | ext (φ : Heap → Prop)
noncomputable abbrev Hp := Addr → Option HO
noncomputable def upd (H : Hp) (a : Addr) (o : HO) : Hp := fun b => if b = a then some o else H b
theorem upd_same {H : Hp} {a : Addr} {o : HO} : upd H a o a = some o := by unfold upd; rw [if_pos rfl]
theorem upd_ne {H : Hp} {a b : Addr} {o : HO} (h : b ≠ a) : upd H a o b = H b := by unfold upd; rw [if_neg h]
theorem ne_of {H : Hp} {a b : Addr} {o u : HO} (h : H a = some o) (h' : H b = some u) (d : o ≠ u) : a ≠ b := by
  intro e; subst e; rw [h] at h'; exact d (Option.some.inj h')
theorem ne_of_none {H : Hp} {a b : Addr} {o : HO} (h : H a = some o) (h' : H b = none) : a ≠ b := by
  intro e; subst e; rw [h] at h'; cases h'
section
variable (P : Program) (w : World)
noncomputable def ObjOk (H : Hp) (h : Heap) (a : Addr) : HO → Prop
  | .lst xs => xs.length ≤ sizeLine ∧ ∃ (its : List Value) (n : Nat), Vals xs its ∧ h.get? a = some { cls := .type "list", data := .seq its.toArray n }
  | .tup xs => xs.length ≤ sizeLine ∧ ∃ its : List Value, Vals xs its ∧ IsTup h a its.toArray
  | .dK kvs => kvs.length ≤ sizeLine ∧ (a == sysModules) = false ∧ ∃ vs, KV kvs vs ∧ h.DictOf (mixKind P w) a vs
  | .dT kvs => kvs.length ≤ sizeLine ∧ (a == sysModules) = false ∧ ∃ xs : List (List Key × Addr × Value),
      Paired (fun (p : List Key × V) (q : List Key × Addr × Value) => p.1 = q.1 ∧ H q.2.1 = some (.tup (p.1.map kV)) ∧ RelV p.2 q.2.2) kvs xs ∧
      ∃ o es ep, h.get? a = some o ∧ o.ExactDict ∧ o.data = .dict es ep ∧ es.toList = xs.map (entryOfKey (tupleKind (mixKind P w))) ∧ (xs.map (·.1)).Nodup
  | .set S n => h.SetOf (intKind P w) a S n
  | .ins C dx fs => H dx = some (.own a) ∧ fs.length ≤ 1000 ∧ dx ≠ a ∧ h.get? a = some (PySem.W.instObj C dx) ∧
      ∃ mA, h.Ns1 dx mA ∧ (∀ f, RelO (fs.lookup f) (mA f)) ∧ PySem.Within mA (fs.map (·.1))
  | .own _ => ∃ o, h.get? a = some o
  | .xd fs => ∃ mA, h.Ns1 a mA ∧ ∀ f, RelO (fs.lookup f) (mA f)
  | .rng lo hi => ∃ t u v, h.get? a = some { cls := .type "range", data := .fields #[.int lo t, .int hi u, .int 1 v] }
  | .frz o u => h.get? a = some o ∧ ObjOk H h a u
  | .tbl ps => h.get? a = some { cls := .none, data := .fields ps }
  | .met f x => h.get? a = some (PySem.W.methodObj (.ref f) (.ref x))
  | .ext φ => φ h ∧ (∃ o, h.get? a = some o) ∧ ∀ h1 h2 : Heap, φ h1 → (∀ o, h1.get? a = some o → h2.get? a = some o) → φ h2
noncomputable def HOk (H : Hp) (h : Heap) : Prop := ∀ a o, H a = some o → ObjOk P w H h a o
end
section
variable {P : Program} {w : World} {H H' : Hp} {h h' : Heap} {a : Addr} {o : HO}
theorem ObjOk.lt (x : ObjOk P w H h a o) : a < h.objs.size := by
  cases o with
  | lst xs => obtain ⟨_, _, _, _, e⟩ := x; exact Heap.lt_size e
  | tup xs => obtain ⟨_, _, _, p⟩ := x; exact p.lt
  | dK kvs => obtain ⟨_, _, _, _, o, _, _, e, _⟩ := x; exact Heap.lt_size e
  | dT kvs => obtain ⟨_, _, _, _, o, _, _, e, _⟩ := x; exact Heap.lt_size e
  | set S n => obtain ⟨o, _, _, _, e, _⟩ := x; exact Heap.lt_size e
  | ins C dx fs => obtain ⟨_, _, _, e, _⟩ := x; exact Heap.lt_size e
  | own y => obtain ⟨_, e⟩ := x; exact Heap.lt_size e
  | xd fs => obtain ⟨_, ⟨_, _, _, e, _⟩, _⟩ := x; exact Heap.lt_size e
  | rng lo hi => obtain ⟨_, _, _, e⟩ := x; exact Heap.lt_size e
  | frz ob u => obtain ⟨e, _⟩ := x; exact Heap.lt_size e
  | tbl ps => exact Heap.lt_size (show h.get? a = some _ from x)
  | met f y => exact Heap.lt_size (show h.get? a = some _ from x)
  | ext φ => obtain ⟨_, ⟨_, e⟩, _⟩ := x; exact Heap.lt_size e
theorem Paired.mapP {α β : Type} {F G : α → β → Prop} : ∀ {l₁ : List α} {l₂ : List β}, Paired F l₁ l₂ → (∀ a b, F a b → G a b) → Paired G l₁ l₂
  | _, _, .nil, _ => .nil
  | _, _, .cons r t, f => .cons (f _ _ r) (Paired.mapP t f)
theorem ObjOk.stay (x : ObjOk P w H h a o) (k : ∀ b u, (b = a ∨ H b = some (.own a)) → h.get? b = some u → h'.get? b = some u)
    (ho : ∀ b, H b = some (.own a) → H' b = some (.own a)) (ht : ∀ b xs, H b = some (.tup xs) → H' b = some (.tup xs)) : ObjOk P w H' h' a o := by
  induction o with
  | lst xs => obtain ⟨z, its, n, r, e⟩ := x; exact ⟨z, its, n, r, k _ _ (.inl rfl) e⟩
  | tup xs => obtain ⟨z, its, r, ob, e, c⟩ := x; exact ⟨z, its, r, ob, k _ _ (.inl rfl) e, c⟩
  | dK kvs => obtain ⟨z, y, vs, r, ob, es, ep, e, c⟩ := x; exact ⟨z, y, vs, r, ob, es, ep, k _ _ (.inl rfl) e, c⟩
  | dT kvs =>
    obtain ⟨z, y, xs, r, ob, es, ep, e, c⟩ := x
    exact ⟨z, y, xs, Paired.mapP r fun p q z => ⟨z.1, ht _ _ z.2.1, z.2.2⟩, ob, es, ep, k _ _ (.inl rfl) e, c⟩
  | set S n => obtain ⟨ob, es, ep, t, e, c⟩ := x; exact ⟨ob, es, ep, t, k _ _ (.inl rfl) e, c⟩
  | ins C dx fs =>
    obtain ⟨d, z, ne, e, mA, ⟨od, es, ep, e2, c⟩, r⟩ := x
    exact ⟨ho _ d, z, ne, k _ _ (.inl rfl) e, mA, ⟨od, es, ep, k _ _ (.inr d) e2, c⟩, r⟩
  | own y => obtain ⟨ob, e⟩ := x; exact ⟨ob, k _ _ (.inl rfl) e⟩
  | xd fs => obtain ⟨mA, ⟨od, es, ep, e, c⟩, r⟩ := x; exact ⟨mA, ⟨od, es, ep, k _ _ (.inl rfl) e, c⟩, r⟩
  | rng lo hi => obtain ⟨t, u, v, e⟩ := x; exact ⟨t, u, v, k _ _ (.inl rfl) e⟩
  | frz ob u ih => obtain ⟨e, q⟩ := x; exact ⟨k _ _ (.inl rfl) e, ih q⟩
  | tbl ps =>
    have e : h.get? a = some { cls := .none, data := .fields ps } := x
    show h'.get? a = some { cls := .none, data := .fields ps }
    exact k a _ (.inl rfl) e
  | met f y =>
    have e : h.get? a = some (PySem.W.methodObj (.ref f) (.ref y)) := x
    show h'.get? a = some (PySem.W.methodObj (.ref f) (.ref y))
    exact k a _ (.inl rfl) e
  | ext φ => obtain ⟨p, ⟨o, e⟩, st⟩ := x; exact ⟨st _ _ p fun o q => k _ _ (.inl rfl) q, ⟨o, k _ _ (.inl rfl) e⟩, st⟩
theorem HOk.lt (x : HOk P w H h) (e : H a = some o) : a < h.objs.size := (x a o e).lt
theorem HOk.fresh (x : HOk P w H h) (e : h.objs.size ≤ a) : H a = none := by
  cases q : H a with
  | none => rfl
  | some u => exact absurd (Nat.lt_of_lt_of_le (x.lt q) e) (Nat.lt_irrefl _)
theorem HOk.kept (x : HOk P w H h) (k : ∀ b u, h.get? b = some u → h'.get? b = some u) : HOk P w H h' := fun a o e =>
  (x a o e).stay (fun b u _ q => k b u q) (fun _ q => q) fun _ _ q => q
theorem HOk.laid (x : HOk P w H h) (k : ∀ b u, h.get? b = some u → h'.get? b = some u) (hp : h.objs.size ≤ a) (new : ObjOk P w (upd H a o) h' a o) : HOk P w (upd H a o) h' := fun b u e => by
  have hn := x.fresh hp
  by_cases hb : b = a
  · subst hb; rw [upd_same] at e; cases e; exact new
  · rw [upd_ne hb] at e
    exact (x b u e).stay (fun c v _ q => k c v q) (fun c q => by rw [upd_ne (ne_of_none q hn)]; exact q) fun c xs q => by rw [upd_ne (ne_of_none q hn)]; exact q
end
noncomputable def Rd (H : Hp) (a : Addr) (u : HO) : Prop := H a = some u ∨ ∃ o, H a = some (.frz o u)
theorem Rd.ok {P : Program} {w : World} {H : Hp} {h : Heap} {a : Addr} {u : HO} (r : Rd H a u) (x : HOk P w H h) : ObjOk P w H h a u := by
  rcases r with r | ⟨o, r⟩
  · exact x a u r
  · obtain ⟨_, q⟩ := x a _ r
    exact q
noncomputable def Mut : Option HO → Prop
  | some (.lst _) => True
  | some (.dK _) => True
  | some (.dT _) => True
  | some (.set _ _) => True
  | some (.ins _ _ _) => True
  | some (.ext _) => True
  | _ => False
section
variable {P : Program} {w : World} {H : Hp} {h h' : Heap} {x e : Addr} {o' : HO}
theorem HOk.write (ok : HOk P w H h) (mu : Mut (H x)) (he : e = x ∨ H e = some (.own x)) (k : ∀ b u, b ≠ e → h.get? b = some u → h'.get? b = some u) (heo : ∃ u, h'.get? e = some u)
    (new : ObjOk P w (upd H x o') h' x o') : HOk P w (upd H x o') h' := fun b u q => by
  have nown : ∀ c y, H c = some (.own y) → c ≠ x := fun c y r z => by subst z; rw [r] at mu; exact mu
  have ntup : ∀ c xs, H c = some (.tup xs) → c ≠ x := fun c xs r z => by subst z; rw [r] at mu; exact mu
  by_cases hb : b = x
  · subst hb; rw [upd_same] at q; cases q; exact new
  · rw [upd_ne hb] at q
    by_cases hbe : b = e
    · have q' : H b = some (.own x) := by
        rcases he with z | z
        · exact absurd (hbe.trans z) hb
        · rw [hbe]; exact z
      rw [q] at q'; cases q'
      obtain ⟨v, hv⟩ := heo
      exact ⟨v, by rw [hbe]; exact hv⟩
    · refine (ok b u q).stay (fun c v hc r => k c v ?_ r) (fun c r => by rw [upd_ne (nown c b r)]; exact r) fun c xs r => by rw [upd_ne (ntup c xs r)]; exact r
      rcases hc with rfl | hc
      · exact hbe
      · rintro rfl
        rcases he with z | z
        · exact nown c b hc z
        · rw [hc] at z; cases z; exact hb rfl
end
structure Un (fs ex : List Addr) (H H' : Hp) (h h' : Heap) : Prop where
  keep : ∀ b o, h.get? b = some o → H b = none → b ∉ fs → b ∉ ex → h'.get? b = some o
  slot : ∀ b o, h.get? b = some o → H b = none → b ∈ fs → b ∉ ex → ∃ sl, h'.get? b = some { o with slots := sl }
  free : ∀ b o, h.get? b = some o → H b = none → b ∉ ex → H' b = none
  there : ∀ b o, h.get? b = some o → b ∉ ex → ∃ o', h'.get? b = some o'
  tups : ∀ b xs, H b = some (.tup xs) → H' b = some (.tup xs)
  frzs : ∀ b o u, H b = some (.frz o u) → H' b = some (.frz o u)
  tbls : ∀ b ps, H b = some (.tbl ps) → ∃ more, H' b = some (.tbl (ps ++ more))
section
variable {fs fs' ex ex' : List Addr} {H H1 H2 : Hp} {h h1 h2 h' : Heap} {a x e : Addr} {o : HO}
theorem Un.any (u : Un fs ex H H1 h h1) {b : Addr} {ob : Obj} (q : h.get? b = some ob) (n : H b = none) (hx : b ∉ ex) : ∃ sl, h1.get? b = some { ob with slots := sl } := by
  by_cases hb : b ∈ fs
  · exact u.slot b ob q n hb hx
  · exact ⟨ob.slots, u.keep b ob q n hb hx⟩
theorem Un.kept (k : ∀ b u, h.get? b = some u → h'.get? b = some u) : Un fs ex H H h h' :=
  ⟨fun b ob q _ _ _ => k b ob q, fun b ob q _ _ _ => ⟨ob.slots, k b ob q⟩, fun _ _ _ n _ => n, fun b ob q _ => ⟨ob, k b ob q⟩, fun _ _ q => q, fun _ _ _ q => q, fun _ ps q => ⟨#[], by rw [q]; simp⟩⟩
theorem Un.refl : Un fs ex H H h h := Un.kept fun _ _ q => q
theorem Un.laid (k : ∀ b u, h.get? b = some u → h'.get? b = some u) (hp : h.objs.size ≤ a) (hn : H a = none) : Un fs ex H (upd H a o) h h' where
  keep := fun b u q _ _ _ => k b u q
  slot := fun b u q _ _ _ => ⟨u.slots, k b u q⟩
  free := fun b u q n _ => by rw [upd_ne (Nat.ne_of_lt (Nat.lt_of_lt_of_le (Heap.lt_size q) hp))]; exact n
  there := fun b u q _ => ⟨u, k b u q⟩
  tups := fun b xs q => by rw [upd_ne (ne_of_none q hn)]; exact q
  frzs := fun b u xs q => by rw [upd_ne (ne_of_none q hn)]; exact q
  tbls := fun b ps q => ⟨#[], by rw [upd_ne (ne_of_none q hn), q]; simp⟩
theorem Un.write (mu : Mut (H x)) (he : e = x ∨ H e = some (.own x)) (k : ∀ b u, b ≠ e → h.get? b = some u → h'.get? b = some u) (heo : ∃ u, h'.get? e = some u) : Un fs ex H (upd H x o) h h' := by
  have hx : ∀ b, H b = none → b ≠ x := fun b n z => by subst z; rw [n] at mu; exact mu
  have hb : ∀ b, H b = none → b ≠ e := fun b n z => by
    subst z
    rcases he with r | r
    · exact hx b n r
    · rw [n] at r; cases r
  have hm : ∀ b u, H b = some u → ¬ Mut (some u) → b ≠ x := fun b u q nm z => by subst z; rw [q] at mu; exact nm mu
  refine ⟨fun b u q n _ _ => k b u (hb b n) q, fun b u q n _ _ => ⟨u.slots, k b u (hb b n) q⟩, fun b u q n _ => by rw [upd_ne (hx b n)]; exact n, fun b u q _ => ?_,
    fun b xs q => by rw [upd_ne (hm b _ q fun z => z)]; exact q, fun b u xs q => by rw [upd_ne (hm b _ q fun z => z)]; exact q, fun b ps q => ⟨#[], by rw [upd_ne (hm b _ q fun z => z), q]; simp⟩⟩
  by_cases hbe : b = e
  · subst hbe; exact heo
  · exact ⟨u, k b u hbe q⟩
end
noncomputable def trk (h : Heap) (H : Hp) : List Addr := (List.range h.objs.size).filter fun a => (H a).isSome
noncomputable def hidT (h : Heap) (H : Hp) : Heap := PySem.W.hideAll h (trk h H)
theorem hidT_size (h : Heap) (H : Hp) : (hidT h H).objs.size = h.objs.size := PySem.W.hideAll_size _ _
theorem hidT_get {h : Heap} {H : Hp} {b : Addr} {o : Obj} (e : h.get? b = some o) (n : H b = none) : (hidT h H).get? b = some o :=
  PySem.W.hideAll_get _ e fun hm => by
    have q : (H b).isSome = true := (List.mem_filter.mp hm).2
    rw [n] at q; simp at q
theorem of_hidT {h : Heap} {H : Hp} {b : Addr} {o : Obj} (e : (hidT h H).get? b = some o) : h.get? b = some o ∧ H b = none := by
  have e' : h.get? b = some o := PySem.W.of_hideAll (trk h H) e
  refine ⟨e', ?_⟩
  cases q : H b with
  | none => rfl
  | some x =>
    have hm : b ∈ trk h H := List.mem_filter.mpr ⟨List.mem_range.mpr (Heap.lt_size e'), by simp [q]⟩
    have z : (hidT h H).get? b = none := PySem.W.hideAll_none (trk h H) hm
    rw [z] at e; cases e
noncomputable def allNews (g h : Heap) (L : Addr) : List (Addr × Obj) := (List.range h.objs.size).filterMap fun a => if a = L ∨ (g.get? a).isSome = true then none else (h.get? a).map fun o => (a, o)
noncomputable def rest (g h : Heap) (L d : Addr) : List (Addr × Obj) := (allNews g h L).filter fun p => decide (p.1 ≠ d)
end L2
namespace L2
open PySem PySem.Spec PyProof.Rows
structure Mod (K : PySem.W.Frag) (mg : Str → Option Value) (base : Heap) : Prop where
  kin : K.In base
  glob : base.Ns mainGlobals mg
  blt : ∃ mb, base.Ns builtinsNs mb ∧ ∀ x : Str, x ≠ "__name__" → mb x = bootBuiltins x
  nolimit : base.NoLimit
structure Cx where
  prog : Program
  w : World
  K : PySem.W.Frag
  mg : Str → Option Value
  base : Heap
  A : Around
  N : List Str
  s₀ : Shared
  H₀ : Hp
  env : Env
  outer : List Env
  stack : List Env
  ex : List Addr
  fn : Str → Bool
  calm : Bool
  pn : List (Addr × Obj)
  xe : Value → Shared → Prop
noncomputable def frs (l : List Env) : List Addr := l.filterMap (·.frame)
noncomputable abbrev Cx.fs (X : Cx) : List Addr := frs X.outer
noncomputable def Vis (sc : Scope) (x : Str) : Prop := sc.names.lookup x = some .local ∨ sc.names.lookup x = some .cell ∨ sc.names.lookup x = some .free
noncomputable def Loc (sc : Scope) (x : Str) : Prop := sc.names.lookup x = some .local ∨ sc.names.lookup x = some .cell
noncomputable def Look (env : Env) (h : Heap) (m : Str → Option Value) (x : Str) (u : Value) : Prop :=
  (env.kindOf x = some .local ∧ m x = some u) ∨ ((env.kindOf x = some .cell ∨ env.kindOf x = some .free) ∧ ∃ c, env.cells.lookup x = some c ∧ h.IsCell c (some u))
structure Cx.Ok (X : Cx) : Prop where
  mod : Mod X.K X.mg X.base
  kind : X.env.scope.kind = .function
  glob : X.env.globals = mainGlobals
  blt : X.env.builtins = builtinsNs
  above : X.s₀.heap.objs.size ≤ X.env.locals
  inj : ∀ x y c, X.env.cells.lookup x = some c → X.env.cells.lookup y = some c → x = y
  has : ∀ x, (X.env.kindOf x = some .cell ∨ X.env.kindOf x = some .free) → ∃ c, X.env.cells.lookup x = some c
  cab : ∀ x c, X.fn x = true → X.env.cells.lookup x = some c → X.s₀.heap.objs.size ≤ c
  hd : X.calm = true → X.A.handled = none
  frames : X.A.frames = some X.stack
  stk : X.stack = X.outer ∨ (X.stack = X.env :: X.outer ∧ X.env.frame = some X.env.locals)
  exf : ∀ b ∈ X.ex, b ≠ X.env.locals ∧ ∀ x c, X.env.cells.lookup x = some c → c ≠ b
  bs : ∀ b o, X.base.get? b = some o → X.s₀.heap.get? b = some o ∧ X.H₀ b = none
  bsz : X.base.objs.size ≤ X.s₀.heap.objs.size
  noex : ∀ b o, X.base.get? b = some o → b ∉ X.ex
  exfs : ∀ b ∈ X.ex, b ∉ X.fs
  funs : X.s₀.heap.FunFrames X.base X.outer
  frf : ∀ b ∈ X.fs, X.H₀ b = none
structure Inv (X : Cx) (pins : List (Addr × Obj)) (σ : List (Option V)) (H : Hp) (s : Shared) : Prop where
  ok : X.Ok
  os : s.os = X.s₀.os
  bare : AllBare s.gens
  base : Un X.fs X.ex X.H₀ H X.s₀.heap s.heap
  loc : ∃ m, s.heap.Ns X.env.locals m ∧ ∀ (i : Nat) (x : Str) (v : V), X.N[i]? = some x → σ[i]? = some (some v) → Vis X.env.scope x → ∃ u, RelV v u ∧ Look X.env s.heap m x u
  cell : ∀ x c, X.env.cells.lookup x = some c → ∃ v, s.heap.IsCell c v
  free : H X.env.locals = none
  freeC : ∀ x c, X.env.cells.lookup x = some c → H c = none
  pin : ∀ p ∈ X.pn ++ pins, s.heap.get? p.1 = some p.2 ∧ H p.1 = none ∧ p.1 ≠ X.env.locals ∧ p.1 ∉ X.fs ∧ ∀ v, p.2.data ≠ .cell v
  hok : HOk X.prog X.w H s.heap
  len : σ.length = X.N.length
section
variable {X : Cx} {pins : List (Addr × Obj)} {σ : List (Option V)} {H H' : Hp} {s : Shared} {h' : Heap}
theorem Cx.Ok.nofr (ok : X.Ok) {b : Addr} {o : Obj} (e : X.base.get? b = some o) : b ∉ X.fs := fun hb => by
  have := (ok.funs.mem hb).1
  rw [e] at this; cases this
theorem Inv.bs (I : Inv X pins σ H s) : ∀ b o, X.base.get? b = some o → s.heap.get? b = some o ∧ H b = none := fun b o e =>
  ⟨I.base.keep b o (I.ok.bs b o e).1 (I.ok.bs b o e).2 (I.ok.nofr e) (I.ok.noex b o e), I.base.free b o (I.ok.bs b o e).1 (I.ok.bs b o e).2 (I.ok.noex b o e)⟩
theorem Inv.bk (I : Inv X pins σ H s) : ∀ b o, X.base.get? b = some o → s.heap.get? b = some o := fun b o e => (I.bs b o e).1
theorem Inv.mod (I : Inv X pins σ H s) : Mod X.K X.mg X.base := I.ok.mod
theorem Inv.kIn (I : Inv X pins σ H s) : X.K.In s.heap := I.ok.mod.kin.keeps I.bk
theorem Inv.lt (I : Inv X pins σ H s) : X.env.locals < s.heap.objs.size := let ⟨_, hn, _⟩ := I.loc; hn.lt
theorem Inv.sz (I : Inv X pins σ H s) : X.s₀.heap.objs.size ≤ s.heap.objs.size := Nat.le_trans I.ok.above (Nat.le_of_lt I.lt)
theorem Inv.nofs (I : Inv X pins σ H s) {a : Addr} (h : s.heap.objs.size ≤ a) : a ∉ X.fs := fun hb => by
  obtain ⟨_, o, ho, _⟩ := I.ok.funs.mem hb
  exact absurd (Nat.lt_of_lt_of_le (Heap.lt_size ho) (Nat.le_trans I.sz h)) (Nat.lt_irrefl _)
theorem Inv.cne (I : Inv X pins σ H s) : ∀ x c, X.env.cells.lookup x = some c → c ≠ X.env.locals := fun x c e z => by
  obtain ⟨v, o, ho, hd⟩ := I.cell x c e
  obtain ⟨m, ⟨o', es, ep, ho', hd', _⟩, _⟩ := I.loc
  rw [z, ho'] at ho; cases ho; rw [hd'] at hd; cases hd
theorem Inv.funs (I : Inv X pins σ H s) : s.heap.FunFrames X.base X.outer := by
  have all : ∀ (l : List Env), (∀ b ∈ frs l, b ∈ X.fs) → X.s₀.heap.FunFrames X.base l → s.heap.FunFrames X.base l := by
    intro l
    induction l with
    | nil => intro _ _; trivial
    | cons env r ih =>
      intro hs hl
      obtain ⟨hk, ⟨L, o, hf, hn, ho, hd⟩, hr⟩ := hl
      have hL : L ∈ X.fs := hs L (by unfold frs; rw [List.filterMap_cons, hf]; exact List.mem_cons_self)
      obtain ⟨sl, e⟩ := I.base.slot L o ho (I.ok.frf L hL) hL fun z => I.ok.exfs L z hL
      exact ⟨hk, ⟨L, _, hf, hn, e, hd⟩, ih (fun b hb => hs b (by unfold frs; rw [List.filterMap_cons, hf]; exact List.mem_cons_of_mem _ hb)) hr⟩
  exact all X.outer (fun _ hb => hb) I.ok.funs
theorem Inv.stack (I : Inv X pins σ H s) : s.heap.FunFrames X.base X.stack := by
  rcases I.ok.stk with e | ⟨e, hf⟩
  · rw [e]; exact I.funs
  · rw [e]
    obtain ⟨m, hn, _⟩ := I.loc
    refine .cons (by rw [I.ok.kind]; decide) hf hn ?_ I.funs
    exact Heap.get?_none_of_le (Nat.le_trans I.ok.bsz I.ok.above)
theorem Inv.stkSub (I : Inv X pins σ H s) : ∀ b ∈ frs X.stack, b ∈ X.env.locals :: X.fs := fun b hb => by
  rcases I.ok.stk with e | ⟨e, hf⟩
  · rw [e] at hb; exact List.mem_cons_of_mem _ hb
  · rw [e] at hb
    unfold frs at hb
    rw [List.filterMap_cons, hf] at hb
    exact hb
theorem Inv.stkFree (I : Inv X pins σ H s) : ∀ b ∈ frs X.stack, H b = none := fun b hb => by
  rcases List.mem_cons.mp (I.stkSub b hb) with e | hb
  · rw [e]; exact I.free
  · obtain ⟨_, o, ho, _⟩ := I.ok.funs.mem hb
    exact I.base.free b o ho (I.ok.frf b hb) fun z => I.ok.exfs b z hb
theorem Inv.step {g' : Array GenState} {t' : Nat} {d' : Drawn} {ch : List Addr} (I : Inv X pins σ H s)
    (hch : ∀ b ∈ ch, (b ∈ X.ex ∨ X.s₀.heap.objs.size ≤ b) ∧ b ≠ X.env.locals ∧ (∀ x c, X.env.cells.lookup x = some c → c ≠ b) ∧ ∀ p ∈ X.pn ++ pins, p.1 ≠ b)
    (keep : ∀ b o, b ≠ X.env.locals → b ∉ X.fs → b ∉ ch → s.heap.get? b = some o → H b = none → h'.get? b = some o)
    (slot : ∀ b o, b ≠ X.env.locals → b ∈ X.fs → b ∉ ch → s.heap.get? b = some o → H b = none → ∃ sl, h'.get? b = some { o with slots := sl }) (free : ∀ b o, b ∉ ch → s.heap.get? b = some o → H b = none → H' b = none)
    (there : ∀ b o, b ∉ ch → s.heap.get? b = some o → ∃ o', h'.get? b = some o')
    (tups : ∀ b xs, H b = some (.tup xs) → H' b = some (.tup xs)) (frzs : ∀ b o u, H b = some (.frz o u) → H' b = some (.frz o u)) (tbls : ∀ b ps, H b = some (.tbl ps) → ∃ more, H' b = some (.tbl (ps ++ more)))
    (ns : ∀ m, s.heap.Ns X.env.locals m → h'.Ns X.env.locals m) (hok : HOk X.prog X.w H' h') (hg : AllBare g') :
    Inv X pins σ H' { s with heap := h', gens := g', drawn := d', toks := t' } := by
  have neL : ∀ b o, X.s₀.heap.get? b = some o → b ≠ X.env.locals := fun b o e => Nat.ne_of_lt (Nat.lt_of_lt_of_le (Heap.lt_size e) I.ok.above)
  have neC : ∀ b o, X.s₀.heap.get? b = some o → b ∉ X.ex → b ∉ ch := fun b o e hx hb => by
    rcases (hch b hb).1 with z | z
    · exact hx z
    · exact absurd (Nat.lt_of_lt_of_le (Heap.lt_size e) z) (Nat.lt_irrefl _)
  have cellK : ∀ x c, X.env.cells.lookup x = some c → ∀ v, s.heap.IsCell c v → h'.IsCell c v := fun x c e v ⟨o, ho, hd⟩ => by
    have nch : c ∉ ch := fun z => (hch c z).2.2.1 x c e rfl
    by_cases hc : c ∈ X.fs
    · obtain ⟨sl, q⟩ := slot c o (I.cne x c e) hc nch ho (I.freeC x c e)
      exact ⟨_, q, hd⟩
    · exact ⟨o, keep c o (I.cne x c e) hc nch ho (I.freeC x c e), hd⟩
  refine ⟨I.ok, I.os, hg, ⟨fun b o e n hb hx => ?_, fun b o e n hb hx => ?_, fun b o e n hx => ?_, fun b o e hx => ?_, fun b xs e => tups b xs (I.base.tups b xs e), fun b o xs e => frzs b o xs (I.base.frzs b o xs e), fun b ps e => ?_⟩, ?_, fun x c e => ?_, ?_, fun x c e => ?_, fun p hp => ?_, hok, I.len⟩
  · exact keep b o (neL b o e) hb (neC b o e hx) (I.base.keep b o e n hb hx) (I.base.free b o e n hx)
  · obtain ⟨sl, e1⟩ := I.base.slot b o e n hb hx
    obtain ⟨sl', e2⟩ := slot b _ (neL b o e) hb (neC b o e hx) e1 (I.base.free b o e n hx)
    exact ⟨sl', e2⟩
  · obtain ⟨o', e1⟩ := I.base.there b o e hx
    exact free b o' (neC b o e hx) e1 (I.base.free b o e n hx)
  · obtain ⟨o', e1⟩ := I.base.there b o e hx
    exact there b o' (neC b o e hx) e1
  · obtain ⟨m1, e1⟩ := I.base.tbls b ps e
    obtain ⟨m2, e2⟩ := tbls b _ e1
    exact ⟨m1 ++ m2, by rw [e2, Array.append_assoc]⟩
  · obtain ⟨m, hn, hl⟩ := I.loc
    refine ⟨m, ns m hn, fun i x v e1 e2 e3 => ?_⟩
    obtain ⟨u, r, l⟩ := hl i x v e1 e2 e3
    refine ⟨u, r, ?_⟩
    rcases l with l | ⟨k, c, e, z⟩
    · exact .inl l
    · exact .inr ⟨k, c, e, cellK x c e _ z⟩
  · obtain ⟨v, z⟩ := I.cell x c e
    exact ⟨v, cellK x c e v z⟩
  · obtain ⟨m, ⟨o, _, _, ho, _⟩, _⟩ := I.loc
    exact free _ o (fun z => (hch _ z).2.1 rfl) ho I.free
  · obtain ⟨v, o, ho, hd⟩ := I.cell x c e
    exact free c o (fun z => (hch c z).2.2.1 x c e rfl) ho (I.freeC x c e)
  · obtain ⟨e, n, ne, nf, d⟩ := I.pin p hp
    have nch : p.1 ∉ ch := fun z => (hch p.1 z).2.2.2 p hp rfl
    exact ⟨keep p.1 p.2 ne nf nch e n, free p.1 p.2 nch e n, ne, nf, d⟩
theorem Inv.un {t' : Nat} (I : Inv X pins σ H s) (u : Un X.fs [] H H' s.heap h') (hok : HOk X.prog X.w H' h') : Inv X pins σ H' { s with heap := h', toks := t' } := by
  obtain ⟨m, ⟨o, es, ep, ho, r⟩, _⟩ := id I.loc
  obtain ⟨sl, hL⟩ := u.any ho I.free (by simp)
  exact I.step (g' := s.gens) (d' := s.drawn) (ch := []) (fun _ z => nomatch z) (fun b o _ hb _ e n => u.keep b o e n hb (by simp)) (fun b o _ hb _ e n => u.slot b o e n hb (by simp)) (fun b o _ e n => u.free b o e n (by simp)) (fun b o _ e => u.there b o e (by simp)) u.tups u.frzs u.tbls (fun m' hm => by
    obtain ⟨o', es', ep', ho', r'⟩ := hm
    rw [ho] at ho'; cases ho'
    exact ⟨_, es', ep', hL, r'⟩) hok I.bare
theorem Inv.call {g' : Array GenState} {t' : Nat} {d' : Drawn} {ch : List Addr} (I : Inv X pins σ H s) (u : Un (frs X.stack) ch H H' s.heap h') (hok : HOk X.prog X.w H' h') (hg : AllBare g')
    (hch : ∀ b ∈ ch, (b ∈ X.ex ∨ X.s₀.heap.objs.size ≤ b) ∧ b ≠ X.env.locals ∧ (∀ x c, X.env.cells.lookup x = some c → c ≠ b) ∧ ∀ p ∈ X.pn ++ pins, p.1 ≠ b) :
    Inv X pins σ H' { s with heap := h', gens := g', drawn := d', toks := t' } := by
  obtain ⟨m, ⟨o, es, ep, ho, r⟩, _⟩ := id I.loc
  obtain ⟨sl, hL⟩ := u.any ho I.free fun z => (hch _ z).2.1 rfl
  exact I.step (ch := ch) hch (fun b o hL hb hc e n => u.keep b o e n (fun z => (List.mem_cons.mp (I.stkSub b z)).elim hL hb) hc) (fun b o _ _ hc e n => u.any e n hc) (fun b o hc e n => u.free b o e n hc) (fun b o hc e => u.there b o e hc) u.tups u.frzs u.tbls (fun m' hm => by
    obtain ⟨o', es', ep', ho', r'⟩ := hm
    rw [ho] at ho'; cases ho'
    exact ⟨_, es', ep', hL, r'⟩) hok hg
theorem Inv.turned {t' : Nat} {it : Addr} (I : Inv X pins σ H s) (k : ∀ b o, b ≠ it → s.heap.get? b = some o → h'.get? b = some o) (hn : H it = none) (hL : it ≠ X.env.locals)
    (h1 : it ∈ X.ex ∨ X.s₀.heap.objs.size ≤ it) (h2 : ∀ x c, X.env.cells.lookup x = some c → c ≠ it) (h3 : ∀ p ∈ X.pn ++ pins, p.1 ≠ it) : Inv X pins σ H { s with heap := h', toks := t' } := by
  have nit : ∀ b u, H b = some u → b ≠ it := fun b u e z => by rw [z, hn] at e; cases e
  refine I.step (g' := s.gens) (d' := s.drawn) (ch := [it]) (fun b hb => ?_) (fun b o _ _ hc e _ => k b o (fun z => hc (by simp [z])) e) (fun b o _ _ hc e _ => ⟨o.slots, k b o (fun z => hc (by simp [z])) e⟩) (fun _ _ _ _ n => n)
    (fun b o hc e => ⟨o, k b o (fun z => hc (by simp [z])) e⟩) (fun _ _ e => e) (fun _ _ _ e => e) (fun b ps e => ⟨#[], by rw [e]; simp⟩) (fun m hm => ?_) (fun b u e => ?_) I.bare
  · have e : b = it := by simpa using hb
    subst e
    exact ⟨h1, hL, h2, h3⟩
  · obtain ⟨o, es, ep, ho, r⟩ := hm
    exact ⟨o, es, ep, k _ o (Ne.symm hL) ho, r⟩
  · refine (I.hok b u e).stay (fun c v hc q => k c v ?_ q) (fun _ q => q) fun _ _ q => q
    rcases hc with z | z
    · rw [z]; exact nit b u e
    · exact nit c _ z
theorem Inv.tok (I : Inv X pins σ H s) (t : Nat) : Inv X pins σ H { s with toks := t } := I.un (h' := s.heap) (t' := t) Un.refl I.hok
theorem Inv.kept {t' : Nat} (I : Inv X pins σ H s) (k : ∀ b u, s.heap.get? b = some u → h'.get? b = some u) : Inv X pins σ H { s with heap := h', toks := t' } := I.un (Un.kept k) (I.hok.kept k)
theorem Inv.laid {a : Addr} {o : HO} {t' : Nat} (I : Inv X pins σ H s) (k : ∀ b u, s.heap.get? b = some u → h'.get? b = some u) (hp : s.heap.objs.size ≤ a) (new : ObjOk X.prog X.w (upd H a o) h' a o) :
    Inv X pins σ (upd H a o) { s with heap := h', toks := t' } := I.un (Un.laid k hp (I.hok.fresh hp)) (I.hok.laid k hp new)
theorem Inv.write {x e : Addr} {o : HO} {t' : Nat} (I : Inv X pins σ H s) (mu : Mut (H x)) (he : e = x ∨ H e = some (.own x)) (k : ∀ b u, b ≠ e → s.heap.get? b = some u → h'.get? b = some u) (heo : ∃ u, h'.get? e = some u)
    (new : ObjOk X.prog X.w (upd H x o) h' x o) : Inv X pins σ (upd H x o) { s with heap := h', toks := t' } := I.un (Un.write mu he k heo) (I.hok.write mu he k heo new)
theorem Inv.pins_of {pins' : List (Addr × Obj)} (I : Inv X pins σ H s) (h : ∀ p ∈ pins', s.heap.get? p.1 = some p.2 ∧ H p.1 = none ∧ p.1 ≠ X.env.locals ∧ p.1 ∉ X.fs ∧ ∀ v, p.2.data ≠ .cell v) : Inv X pins' σ H s :=
  ⟨I.ok, I.os, I.bare, I.base, I.loc, I.cell, I.free, I.freeC, fun p hp => (List.mem_append.mp hp).elim (fun z => I.pin p (List.mem_append_left _ z)) (h p), I.hok, I.len⟩
theorem nodup_ix {N : List Str} (hN : N.Nodup) {i j : Nat} {x : Str} (a : N[i]? = some x) (b : N[j]? = some x) : i = j := by
  obtain ⟨h1, e1⟩ := List.getElem?_eq_some_iff.mp a
  obtain ⟨h2, e2⟩ := List.getElem?_eq_some_iff.mp b
  exact (List.getElem_inj hN).mp (e1.trans e2.symm)
theorem store_ok2 {M : Model} {A : Around} {E : Value → Shared → Prop} {i : Nat} {x : Str} {v : V} {u : Value} {Q : Unit → Shared → Prop} (I : Inv X pins σ H s) (hN : X.N.Nodup) (hi : X.N[i]? = some x) (hx : Loc X.env.scope x) (r : RelV v u)
    (h : ∀ s', Inv X pins (σ.set i (some v)) H s' → (∃ a, Heap.SameBut a s.heap s'.heap ∧ (a = X.env.locals ∨ X.env.cells.lookup x = some a)) → Q () s') (hf : X.fn x = true ∨ X.env.scope.names.lookup x = some .local := by first | exact .inl rfl | exact .inr rfl | assumption) : wpAny M A (storeName X.env x u) Q E s := by
  obtain ⟨m, hn, hl⟩ := id I.loc
  have hcls : (X.env.scope.kind == .class || (X.env.scope.kind == .module && X.env.locals != X.env.globals)) = false := by rw [I.ok.kind]; rfl
  have hiσ : i < σ.length := by rw [I.len]; exact (List.getElem?_eq_some_iff.mp hi).1
  have cne := I.cne
  have tracked : ∀ {a : Addr} {h' : Heap}, (∃ o, s.heap.get? a = some o ∧ H a = none) → Heap.SameBut a s.heap h' → HOk X.prog X.w H h' := fun {a h'} ha hs b ob e => by
    obtain ⟨_, _, hfree⟩ := ha
    refine (I.hok b ob e).stay (fun c w' hc q => (hs.2 c ?_).trans q) (fun _ q => q) fun _ _ q => q
    rintro rfl
    rcases hc with rfl | hc
    · rw [hfree] at e; cases e
    · rw [hfree] at hc; cases hc
  rcases hx with hk | hk
  · refine wpAny_storeName_local hk hn (fun h' hn' hs => ?_) hcls
    obtain ⟨oL, _, _, hoL, _⟩ := id hn
    refine h _ ⟨I.ok, I.os, I.bare, ⟨fun b o e n hb hx => ?_, fun b o e n hb hx => ?_, I.base.free, fun b o e hx => ?_, I.base.tups, I.base.frzs, I.base.tbls⟩, ⟨_, hn', fun j y v' e1 e2 e3 => ?_⟩, fun y c e => ?_, I.free, I.freeC, fun p hp => ?_, tracked ⟨oL, hoL, I.free⟩ hs, by simpa using I.len⟩ ⟨_, hs, .inl rfl⟩
    · exact (hs.2 b (Nat.ne_of_lt (Nat.lt_of_lt_of_le (Heap.lt_size e) I.ok.above))).trans (I.base.keep b o e n hb hx)
    · obtain ⟨sl, e1⟩ := I.base.slot b o e n hb hx
      exact ⟨sl, (hs.2 b (Nat.ne_of_lt (Nat.lt_of_lt_of_le (Heap.lt_size e) I.ok.above))).trans e1⟩
    · obtain ⟨o', e1⟩ := I.base.there b o e hx
      exact ⟨o', (hs.2 b (Nat.ne_of_lt (Nat.lt_of_lt_of_le (Heap.lt_size e) I.ok.above))).trans e1⟩
    · by_cases hj : j = i
      · subst hj
        rw [hi] at e1; cases e1
        rw [List.getElem?_set_self hiσ] at e2
        cases e2
        exact ⟨u, r, .inl ⟨hk, by simp⟩⟩
      · rw [List.getElem?_set_ne (Ne.symm hj)] at e2
        obtain ⟨u', r', q⟩ := hl j y v' e1 e2 e3
        refine ⟨u', r', ?_⟩
        rcases q with ⟨k, e⟩ | ⟨k, c, e, z⟩
        · refine .inl ⟨k, ?_⟩
          have : y ≠ x := fun e => hj (nodup_ix hN e1 (e ▸ hi))
          simp [this, e]
        · exact .inr ⟨k, c, e, z.sameBut hs (cne y c e)⟩
    · obtain ⟨w', z⟩ := I.cell y c e
      exact ⟨w', z.sameBut hs (cne y c e)⟩
    · obtain ⟨e, n, ne, nf, d⟩ := I.pin p hp
      exact ⟨(hs.2 p.1 ne).trans e, n, ne, nf, d⟩
  · have hfn : X.fn x = true := by
      rcases hf with z | z
      · exact z
      · rw [z] at hk; cases hk
    obtain ⟨c, hc⟩ := I.ok.has x (.inl hk)
    obtain ⟨w', z⟩ := I.cell x c hc
    refine wpAny_storeName_cell I.ok.kind hk hc z (fun h' hc' hs => ?_)
    obtain ⟨oc, hoc, hocd⟩ := id z
    refine h { s with heap := h' } ⟨I.ok, I.os, I.bare, ⟨fun b o e n hb hx => ?_, fun b o e n hb hx => ?_, I.base.free, fun b o e hx => ?_, I.base.tups, I.base.frzs, I.base.tbls⟩, ⟨m, hn.sameBut hs (Ne.symm (cne x c hc)), fun j y v' e1 e2 e3 => ?_⟩, fun y c' e => ?_, I.free, I.freeC, fun p hp => ?_, tracked ⟨oc, hoc, I.freeC x c hc⟩ hs, by simpa using I.len⟩ ⟨c, hs, .inr hc⟩
    · exact (hs.2 b (Nat.ne_of_lt (Nat.lt_of_lt_of_le (Heap.lt_size e) (I.ok.cab x c hfn hc)))).trans (I.base.keep b o e n hb hx)
    · obtain ⟨sl, e1⟩ := I.base.slot b o e n hb hx
      exact ⟨sl, (hs.2 b (Nat.ne_of_lt (Nat.lt_of_lt_of_le (Heap.lt_size e) (I.ok.cab x c hfn hc)))).trans e1⟩
    · obtain ⟨o', e1⟩ := I.base.there b o e hx
      exact ⟨o', (hs.2 b (Nat.ne_of_lt (Nat.lt_of_lt_of_le (Heap.lt_size e) (I.ok.cab x c hfn hc)))).trans e1⟩
    · by_cases hj : j = i
      · subst hj
        rw [hi] at e1; cases e1
        rw [List.getElem?_set_self hiσ] at e2
        cases e2
        exact ⟨u, r, .inr ⟨.inl hk, c, hc, hc'⟩⟩
      · rw [List.getElem?_set_ne (Ne.symm hj)] at e2
        obtain ⟨u', r', q⟩ := hl j y v' e1 e2 e3
        refine ⟨u', r', ?_⟩
        rcases q with q | ⟨k, c', e, z'⟩
        · exact .inl q
        · refine .inr ⟨k, c', e, z'.sameBut hs ?_⟩
          rintro rfl
          exact hj (nodup_ix hN e1 (I.ok.inj _ _ _ e hc ▸ hi))
    · by_cases hcc : c' = c
      · subst hcc; exact ⟨_, hc'⟩
      · obtain ⟨w2, z2⟩ := I.cell y c' e
        exact ⟨w2, z2.sameBut hs hcc⟩
    · obtain ⟨e, n, ne, nf, d⟩ := I.pin p hp
      refine ⟨(hs.2 p.1 ?_).trans e, n, ne, nf, d⟩
      intro q
      rw [q, hoc] at e
      have q' : oc = p.2 := Option.some.inj e
      exact d w' (by rw [← q']; exact hocd)
theorem store_ok {M : Model} {A : Around} {E : Value → Shared → Prop} {i : Nat} {x : Str} {v : V} {u : Value} {Q : Unit → Shared → Prop} (I : Inv X pins σ H s) (hN : X.N.Nodup) (hi : X.N[i]? = some x) (hx : Loc X.env.scope x) (r : RelV v u)
    (h : ∀ s', Inv X pins (σ.set i (some v)) H s' → Q () s') (hf : X.fn x = true ∨ X.env.scope.names.lookup x = some .local := by first | exact .inl rfl | exact .inr rfl | assumption) : wpAny M A (storeName X.env x u) Q E s :=
  store_ok2 I hN hi hx r (fun s' I' _ => h s' I') hf
theorem Inv.call' {s' : Shared} {ch : List Addr} (I : Inv X pins σ H s) (ho : s'.os = s.os) (u : Un (frs X.stack) ch H H' s.heap s'.heap) (hok : HOk X.prog X.w H' s'.heap) (hg : AllBare s'.gens)
    (hch : ∀ b ∈ ch, (b ∈ X.ex ∨ X.s₀.heap.objs.size ≤ b) ∧ b ≠ X.env.locals ∧ (∀ x c, X.env.cells.lookup x = some c → c ≠ b) ∧ ∀ p ∈ X.pn ++ pins, p.1 ≠ b) : Inv X pins σ H' s' := by
  obtain ⟨h', g', d', t', o'⟩ := s'
  have e : o' = s.os := ho
  subst e
  exact I.call (g' := g') (t' := t') (d' := d') u hok hg hch
end
noncomputable abbrev XK := Value → Option Addr → Hp → Prop
noncomputable abbrev St := List (Option V)
noncomputable abbrev VK := V → Hp → Prop
noncomputable abbrev TE := St → Hp → VK → Prop
noncomputable abbrev TT := St → Hp → (Bool → Hp → Prop) → Prop
noncomputable abbrev TA := St → Hp → (List V → Hp → Prop) → Prop
structure Ends where
  nx : St → Hp → Prop
  rt : VK
  bk : St → Hp → Prop := fun _ _ => False
  ct : St → Hp → Prop := fun _ _ => False
noncomputable abbrev TS := Ends → St → Hp → Prop
noncomputable def EP (X : Cx) (pins : List (Addr × Obj)) (σ : St) (Q : VK) (u : Value) (s' : Shared) : Prop := ∃ v H', Inv X pins σ H' s' ∧ RelV v u ∧ Q v H'
noncomputable def TP (X : Cx) (pins : List (Addr × Obj)) (σ : St) (Q : Bool → Hp → Prop) (b : Bool) (s' : Shared) : Prop := ∃ H', Inv X pins σ H' s' ∧ Q b H'
noncomputable def AP (X : Cx) (pins : List (Addr × Obj)) (σ : St) (Q : List V → Hp → Prop) (us : List Value) (s' : Shared) : Prop := ∃ vs H', Inv X pins σ H' s' ∧ Vals vs us ∧ Q vs H'
noncomputable def SP (X : Cx) (pins : List (Addr × Obj)) (D : Ends) (f : Flow) (s' : Shared) : Prop :=
  match f with
  | .next => ∃ σ' H', Inv X pins σ' H' s' ∧ D.nx σ' H'
  | .brk => ∃ σ' H', Inv X pins σ' H' s' ∧ D.bk σ' H'
  | .cont => ∃ σ' H', Inv X pins σ' H' s' ∧ D.ct σ' H'
  | .ret u => ∃ v σ' H', Inv X pins σ' H' s' ∧ RelV v u ∧ D.rt v H'
noncomputable def PE (X : Cx) (e : Expr) (t : TE) : Prop :=
  ∀ (pins : List (Addr × Obj)) (s : Shared) (σ : St) (H : Hp) (Q : VK), Inv X pins σ H s → t σ H Q → wpAny (model X.prog X.w) X.A (eval e X.env) (EP X pins σ Q) X.xe s
noncomputable def PT (X : Cx) (e : Expr) (t : TT) : Prop :=
  ∀ (pins : List (Addr × Obj)) (s : Shared) (σ : St) (H : Hp) (Q : Bool → Hp → Prop), Inv X pins σ H s → t σ H Q → wpAny (model X.prog X.w) X.A (isTrue e X.env (eval e X.env)) (TP X pins σ Q) X.xe s
noncomputable def PW (X : Cx) (e : Expr) (t : TT) : Prop :=
  ∀ (whole : Sem Value) (pins : List (Addr × Obj)) (s : Shared) (σ : St) (H : Hp) (Q : Bool → Hp → Prop), Inv X pins σ H s → t σ H Q → wpAny (model X.prog X.w) X.A (isTrue e X.env whole) (TP X pins σ Q) X.xe s
theorem PW.pt {X : Cx} {e : Expr} {t : TT} (h : PW X e t) : PT X e t := h _
noncomputable def PA (X : Cx) (es : List Expr) (t : TA) : Prop :=
  ∀ (pos : Pos) (pins : List (Addr × Obj)) (s : Shared) (σ : St) (H : Hp) (Q : List V → Hp → Prop), Inv X pins σ H s → t σ H Q → wpAny (model X.prog X.w) X.A (spliced (backTo pos (starEach es X.env))) (AP X pins σ Q) X.xe s
noncomputable def PS (X : Cx) (st : Stmt) (t : TS) : Prop :=
  ∀ (pins : List (Addr × Obj)) (s : Shared) (σ : St) (H : Hp) (D : Ends), Inv X pins σ H s → t D σ H → wpAny (model X.prog X.w) X.A (exec st X.env) (SP X pins D) X.xe s
noncomputable def PSs (X : Cx) (st : List Stmt) (t : TS) : Prop :=
  ∀ (pins : List (Addr × Obj)) (s : Shared) (σ : St) (H : Hp) (D : Ends), Inv X pins σ H s → t D σ H → wpAny (model X.prog X.w) X.A (execs st X.env) (SP X pins D) X.xe s
theorem thn {α : Type} {t : Sem α} {Q Q' : α → Shared → Prop} {M : Model} {A : Around} {E : Value → Shared → Prop} {s : Shared} (h : wpAny M A t Q E s) (hQ : ∀ a s, Q a s → Q' a s) : wpAny M A t Q' E s := wpAny_mono h hQ fun _ _ x => x
end L2
namespace L2
open PySem PySem.Spec PyProof.Rows
section
variable {X : Cx}
noncomputable def tVar (i : Nat) : TE := fun σ H Q => ∃ v, σ[i]? = some (some v) ∧ Q v H
noncomputable def tC (v : V) : TE := fun _ H Q => Q v H
theorem pe_var {i : Nat} {x : Str} {pos : Pos} (hN : X.N[i]? = some x) (hv : Vis X.env.scope x) (hd : (x == ("__debug__" : Str)) = false := by decide) (hcd : (x == ("__classdict__" : Str)) = false := by decide) : PE X (.Name x pos) (tVar i) := by
  intro pins s σ H Q I h
  obtain ⟨v, e, h⟩ := h
  obtain ⟨m, hn, hl⟩ := I.loc
  obtain ⟨u, r, l⟩ := hl i x v hN e hv
  have fin : EP X pins σ Q u s := ⟨v, H, I, r, h⟩
  rcases l with ⟨hk, hm⟩ | ⟨hk, c, hc, hcell⟩
  · exact wpAny_Name (wpAny_loadName_local I.ok.kind hk hn hm fin) hd
  · rcases hk with hk | hk
    · exact wpAny_Name (wpAny_loadName_cell I.ok.kind hk hc hcell fin) hd
    · exact wpAny_Name (wpAny_loadName_free I.ok.kind hk hc hcell fin hcd) hd
theorem pe_int {i j pos} : PE X (.Constant (.int i) j pos) (tC (.int i)) := fun _ _ _ H _ I h => wpAny_Constant_int ⟨.int i, H, I.tok _, ⟨_, rfl⟩, h⟩
theorem pe_bl {b j pos} : PE X (.Constant (.bool b) j pos) (tC (.bl b)) := fun _ _ _ H _ I h => Constant_bool ⟨.bl b, H, I, rfl, h⟩
noncomputable def Gl (X : Cx) (x : Str) : Prop := X.env.kindOf x = some .globalImplicit
theorem ld_glob {E : Value → Shared → Prop} {pins : List (Addr × Obj)} {s : Shared} {σ : St} {H : Hp} {x : Str} {u : Value} {pos : Pos} {Q : Value → Shared → Prop} (I : Inv X pins σ H s) (hg : Gl X x) (hm : X.mg x = some u) (h : Q u s)
    (hd : (x == ("__debug__" : Str)) = false := by decide) : wpAny (model X.prog X.w) X.A (eval (.Name x pos) X.env) Q E s :=
  Calls.Name_function_global I.ok.kind hg (Calls.loadGlobal_global (by rw [I.ok.glob]; exact I.mod.glob.keeps I.bk) hm h) hd
theorem ld_blt {E : Value → Shared → Prop} {pins : List (Addr × Obj)} {s : Shared} {σ : St} {H : Hp} {x : Str} {u : Value} {pos : Pos} {Q : Value → Shared → Prop} (I : Inv X pins σ H s) (hg : Gl X x) (hm : X.mg x = none) (hv : bootBuiltins x = some u) (h : Q u s)
    (hn : x ≠ "__name__" := by decide) (hd : (x == ("__debug__" : Str)) = false := by decide) : wpAny (model X.prog X.w) X.A (eval (.Name x pos) X.env) Q E s := by
  obtain ⟨mb, h1, h2⟩ := I.mod.blt
  exact Calls.Name_function_global I.ok.kind hg (Calls.loadGlobal_builtin (by rw [I.ok.glob]; exact I.mod.glob.keeps I.bk) hm (by rw [I.ok.blt]; exact h1.keeps I.bk) ((h2 x hn).trans hv) h) hd
theorem pe_glob {x : Str} {v : V} {u : Value} {pos : Pos} (hg : Gl X x) (hm : X.mg x = some u) (r : RelV v u) (hd : (x == ("__debug__" : Str)) = false := by decide) : PE X (.Name x pos) (tC v) :=
  fun _ _ _ H _ I h => ld_glob I hg hm ⟨v, H, I, r, h⟩ hd
theorem pe_bltn {x : Str} {v : V} {u : Value} {pos : Pos} (hg : Gl X x) (hm : X.mg x = none) (hv : bootBuiltins x = some u) (r : RelV v u) (hn : x ≠ "__name__" := by decide) (hd : (x == ("__debug__" : Str)) = false := by decide) : PE X (.Name x pos) (tC v) :=
  fun _ _ _ H _ I h => ld_blt I hg hm hv ⟨v, H, I, r, h⟩ hn hd
variable {a b : Expr} {ta tb : TE} {pos : Pos}
noncomputable def PC (X : Cx) (op : CmpOp) (a b : Expr) (t : TE) : Prop :=
  ∀ (pins : List (Addr × Obj)) (s : Shared) (σ : St) (H : Hp) (Q : VK), Inv X pins σ H s → t σ H Q →
    wpAny (model X.prog X.w) X.A (eval a X.env) (fun v s₁ => wpAny (model X.prog X.w) X.A (eval b X.env) (fun u s₂ => wpAny (model X.prog X.w) X.A (compareOp op v u) (EP X pins σ Q) X.xe s₂) X.xe s₁) X.xe s
noncomputable def tB (t : TE) : TT := fun σ H Q => t σ H fun x H1 => ∃ c, x = .bl c ∧ Q c H1
theorem pt_cmp {op : CmpOp} {t : TE} (h : PC X op a b t) (h1 : behindInMarks op b = false := by first | exact nobehind _ (by decide) (by decide) | rfl) : PT X (.Compare a [op] [b] pos) (tB t) := by
  intro pins s σ H Q I hw
  refine wpAny_isTrue_Compare1 (thn (h pins s σ H _ I hw) fun v s1 h1 => thn h1 fun u s2 h2 => thn h2 fun c s3 ⟨x, H1, I1, r1, q1⟩ => ?_) h1
  obtain ⟨d, rfl, q⟩ := q1
  cases r1
  exact wpAny_truthy_bool ⟨H1, I1, q⟩
theorem pt_val {e : Expr} {t : TE} (h : PE X e t) (he : ∀ whole, isTrue e X.env whole = (do let v ← whole; standAt e.pos; holding [v] (truthy v)) := by intro _; rfl) : PT X e (tB t) := by
  intro pins s σ H Q I hw
  refine isTrue_plain (thn (h pins s σ H _ I hw) fun v s1 ⟨x, H1, I1, r1, q1⟩ => ?_) (he _)
  obtain ⟨d, rfl, q⟩ := q1
  cases r1
  exact wpAny_truthy_bool ⟨H1, I1, q⟩
variable {tA tB' : TT} {rest : List Expr}
noncomputable def tAnd (t u : TT) : TT := fun σ H Q => t σ H fun c H1 => if c = true then u σ H1 Q else Q false H1
noncomputable def tOr (t u : TT) : TT := fun σ H Q => t σ H fun c H1 => if c = true then Q true H1 else u σ H1 Q
noncomputable def tNot (t : TT) : TT := fun σ H Q => t σ H fun c H1 => Q (!c) H1
theorem pw_and1 (ha : PT X a tA) : PW X (.BoolOp .And [a] pos) tA := by
  intro wh pins s σ H Q I h
  refine isTrue_and (thn (ha pins s σ H Q I h) fun c s1 e => ?_)
  cases c with
  | true => exact isTrue_and_nil e
  | false => exact e
theorem pw_or1 (ha : PT X a tA) : PW X (.BoolOp .Or [a] pos) tA := by
  intro wh pins s σ H Q I h
  refine isTrue_or (thn (ha pins s σ H Q I h) fun c s1 e => ?_)
  cases c with
  | false => exact isTrue_or_nil e
  | true => exact e
theorem pw_and (ha : PT X a tA) (hb : PW X (.BoolOp .And (b :: rest) pos) tB') : PW X (.BoolOp .And (a :: b :: rest) pos) (tAnd tA tB') := by
  intro wh pins s σ H Q I h
  refine isTrue_and (thn (ha pins s σ H _ I h) fun c s1 ⟨H1, I1, q1⟩ => ?_)
  cases c with
  | true => exact hb wh pins s1 σ H1 Q I1 q1
  | false => exact ⟨H1, I1, q1⟩
theorem pw_or (ha : PT X a tA) (hb : PW X (.BoolOp .Or (b :: rest) pos) tB') : PW X (.BoolOp .Or (a :: b :: rest) pos) (tOr tA tB') := by
  intro wh pins s σ H Q I h
  refine isTrue_or (thn (ha pins s σ H _ I h) fun c s1 ⟨H1, I1, q1⟩ => ?_)
  cases c with
  | true => exact ⟨H1, I1, q1⟩
  | false => exact hb wh pins s1 σ H1 Q I1 q1
theorem pt_not (ha : PT X a tA) : PT X (.UnaryOp .Not a pos) (tNot tA) := by
  intro pins s σ H Q I h
  exact isTrue_not (ha pins s σ H (fun c H1 => Q (!c) H1) I h)
noncomputable def tAndV (ta tb : TE) : TE := fun σ H Q => ta σ H fun x H1 => ∃ c, x = .bl c ∧ if c = true then tb σ H1 Q else Q (.bl false) H1
noncomputable def tNotV (ta : TE) : TE := fun σ H Q => ta σ H fun x H1 => ∃ c, x = .bl c ∧ Q (.bl (!c)) H1
theorem pe_one {op} {t : TE} (h : PE X a t) : PE X (.BoolOp op [a] pos) t := fun pins s σ H Q I hw => BoolOp_one (h pins s σ H Q I hw)
theorem pe_and (ha : PE X a ta) (hb : PE X (.BoolOp .And (b :: rest) pos) tb) : PE X (.BoolOp .And (a :: b :: rest) pos) (tAndV ta tb) := by
  intro pins s σ H Q I h
  refine BoolOp_and (thn (ha pins s σ H _ I h) fun v s1 ⟨x, H1, I1, r1, q1⟩ => ?_)
  obtain ⟨c, rfl, q1⟩ := q1
  cases r1
  refine wpAny_truthy_bool ?_
  cases c with
  | true => exact hb pins s1 σ H1 Q I1 q1
  | false => exact ⟨.bl false, H1, I1, rfl, q1⟩
theorem pe_not (ha : PE X a ta) : PE X (.UnaryOp .Not a pos) (tNotV ta) := by
  intro pins s σ H Q I h
  refine UnaryOp_ (thn (ha pins s σ H _ I h) fun v s1 ⟨x, H1, I1, r1, q1⟩ => ?_)
  obtain ⟨c, rfl, q1⟩ := q1
  cases r1
  exact not_of (wpAny_truthy_bool ⟨.bl (!c), H1, I1, rfl, q1⟩)
noncomputable def tIf (t : TT) (ta tb : TE) : TE := fun σ H Q => t σ H fun c H1 => if c = true then ta σ H1 Q else tb σ H1 Q
theorem pe_ifExp {c : Expr} (hc : PT X c tA) (ha : PE X a ta) (hb : PE X b tb) : PE X (.IfExp c a b pos) (tIf tA ta tb) := by
  intro pins s σ H Q I h
  refine wpAny_IfExp (thn (hc pins s σ H _ I h) fun d s1 ⟨H1, I1, q1⟩ => ?_)
  cases d with
  | true => exact ha pins s1 σ H1 Q I1 q1
  | false => exact hb pins s1 σ H1 Q I1 q1
end
end L2
namespace L2
open PySem PySem.Spec PyProof.Rows
noncomputable def SqL (K : PySem.W.Frag) (H : Hp) (a : Addr) (xs : List V) : Prop :=
  Rd H a (.lst xs) ∨
    ∃ (o : Obj) (its : Array Value) (n : Nat), K.lookup a = some o ∧ o.cls = .type "list" ∧ o.dict = none ∧ o.data = .seq its n ∧ its.size ≤ sizeLine ∧ Vals xs its.toList
noncomputable def SqT (K : PySem.W.Frag) (H : Hp) (a : Addr) (xs : List V) : Prop :=
  Rd H a (.tup xs) ∨
    ∃ (o : Obj) (its : Array Value) (n : Nat), K.lookup a = some o ∧ o.cls = .type "tuple" ∧ o.data = .seq its n ∧ its.size ≤ sizeLine ∧ Vals xs its.toList
noncomputable def absV : Value → Option V
  | .none => some .non
  | .bool b => some (.bl b)
  | .int i _ => some (.int i)
  | .str x _ => some (.str x)
  | .bytes b _ => some (.byt b)
  | .float b _ => some (.flt b)
  | .ref a => some (.ref a)
  | .type n => some (.ty n)
  | _ => none
theorem RelV.abs {x : V} {u : Value} (r : RelV x u) : absV u = some x := by
  cases x with
  | non => cases r; rfl
  | bl _ => cases r; rfl
  | int _ => obtain ⟨t, rfl⟩ := r; rfl
  | str _ => obtain ⟨t, rfl⟩ := r; rfl
  | byt _ => obtain ⟨t, rfl⟩ := r; rfl
  | flt _ => obtain ⟨t, rfl⟩ := r; rfl
  | ref _ => cases r; rfl
  | ty _ => cases r; rfl
theorem RelV.inj {x y : V} {u : Value} (r : RelV x u) (q : RelV y u) : x = y := Option.some.inj (r.abs.symm.trans q.abs)
theorem Vals.inj : ∀ {xs ys : List V} {us : List Value}, Vals xs us → Vals ys us → xs = ys
  | _, _, _, .nil, .nil => rfl
  | _, _, _, .cons r t, .cons r' t' => by rw [r.inj r', Vals.inj t t']
section
variable {X : Cx} {pins : List (Addr × Obj)} {σ : St} {H : Hp} {s : Shared} {a : Addr} {xs ys : List V}
theorem SqL.of {K : PySem.W.Frag} (h : H a = some (.lst xs)) : SqL K H a xs := .inl (.inl h)
theorem SqT.of {K : PySem.W.Frag} (h : H a = some (.tup xs)) : SqT K H a xs := .inl (.inl h)
theorem Inv.list (I : Inv X pins σ H s) (h : SqL X.K H a xs) : ∃ its : List Value, Vals xs its ∧ PlainL s.heap a its.toArray ∧ xs.length ≤ sizeLine := by
  rcases h with h | ⟨o, its, n, hk, hc, hd, hs, hz, r⟩
  · obtain ⟨z, its, n, r, e⟩ := h.ok I.hok
    exact ⟨its, r, ⟨_, n, e, rfl, rfl, rfl⟩, z⟩
  · refine ⟨its.toList, r, ⟨o, n, I.kIn a o hk, hc, hd, by simpa using hs⟩, ?_⟩
    have e := r.length
    simp only [Array.length_toList] at e
    omega
theorem Inv.tuple (I : Inv X pins σ H s) (h : SqT X.K H a xs) : ∃ its : List Value, Vals xs its ∧ IsTup s.heap a its.toArray ∧ xs.length ≤ sizeLine := by
  rcases h with h | ⟨o, its, n, hk, hc, hs, hz, r⟩
  · obtain ⟨z, its, r, p⟩ := h.ok I.hok
    exact ⟨its, r, p, z⟩
  · refine ⟨its.toList, r, ⟨o, I.kIn a o hk, hc, n, by simpa using hs⟩, ?_⟩
    have e := r.length
    simp only [Array.length_toList] at e
    omega
theorem Inv.list_inj (I : Inv X pins σ H s) (h : SqL X.K H a xs) (h' : SqL X.K H a ys) : xs = ys := by
  obtain ⟨its, r, ⟨o, n, e, _, _, d⟩, _⟩ := I.list h
  obtain ⟨its', r', ⟨o', n', e', _, _, d'⟩, _⟩ := I.list h'
  rw [e] at e'; cases e'
  rw [d] at d'
  injection d' with d1 _
  have : its = its' := by simpa using congrArg Array.toList d1
  subst this
  exact r.inj r'
theorem Inv.tuple_inj (I : Inv X pins σ H s) (h : SqT X.K H a xs) (h' : SqT X.K H a ys) : xs = ys := by
  obtain ⟨its, r, ⟨o, e, _, n, d⟩, _⟩ := I.tuple h
  obtain ⟨its', r', ⟨o', e', _, n', d'⟩, _⟩ := I.tuple h'
  rw [e] at e'; cases e'
  rw [d] at d'
  injection d' with d1 _
  have : its = its' := by simpa using congrArg Array.toList d1
  subst this
  exact r.inj r'
end
noncomputable abbrev Cx.wish (X : Cx) (E : Value → Shared → Prop) : Cx := { X with xe := E }
noncomputable abbrev Cx.nox (X : Cx) : Cx := X.wish fun _ _ => False
theorem Cx.Ok.wish {X : Cx} (ok : X.Ok) (E : Value → Shared → Prop) : (X.wish E).Ok :=
  ⟨ok.mod, ok.kind, ok.glob, ok.blt, ok.above, ok.inj, ok.has, ok.cab, ok.hd, ok.frames, ok.stk, ok.exf, ok.bs, ok.bsz, ok.noex, ok.exfs, ok.funs, ok.frf⟩
theorem Cx.Ok.unwish {X : Cx} {E : Value → Shared → Prop} (ok : (X.wish E).Ok) : X.Ok :=
  ⟨ok.mod, ok.kind, ok.glob, ok.blt, ok.above, ok.inj, ok.has, ok.cab, ok.hd, ok.frames, ok.stk, ok.exf, ok.bs, ok.bsz, ok.noex, ok.exfs, ok.funs, ok.frf⟩
section
variable {X : Cx} {pins : List (Addr × Obj)} {σ : St} {H : Hp} {s : Shared} {E : Value → Shared → Prop}
theorem Inv.wish (I : Inv X pins σ H s) (E : Value → Shared → Prop) : Inv (X.wish E) pins σ H s := ⟨I.ok.wish E, I.os, I.bare, I.base, I.loc, I.cell, I.free, I.freeC, I.pin, I.hok, I.len⟩
theorem Inv.unwish (I : Inv (X.wish E) pins σ H s) : Inv X pins σ H s := ⟨I.ok.unwish, I.os, I.bare, I.base, I.loc, I.cell, I.free, I.freeC, I.pin, I.hok, I.len⟩
theorem SP.unwish {D : Ends} {f : Flow} {s' : Shared} (h : SP (X.wish E) pins D f s') : SP X pins D f s' := by
  cases f with
  | next => obtain ⟨σ', H', I, q⟩ := h; exact ⟨σ', H', I.unwish, q⟩
  | brk => obtain ⟨σ', H', I, q⟩ := h; exact ⟨σ', H', I.unwish, q⟩
  | cont => obtain ⟨σ', H', I, q⟩ := h; exact ⟨σ', H', I.unwish, q⟩
  | ret u => obtain ⟨v, σ', H', I, r, q⟩ := h; exact ⟨v, σ', H', I.unwish, r, q⟩
theorem PSs.nox {st : List Stmt} {t : TS} (h : PSs X.nox st t) : PSs X st t := fun pins s σ H D I hw =>
  wpAny_mono (h pins s σ H D (I.wish _) hw) (fun _ _ q => q.unwish) fun _ _ z => False.elim z
end
section
variable {X : Cx} {st : Stmt} {rest : List Stmt} {t u : TS} {e : Expr} {te : TE} {pos : Pos}
noncomputable def tNext : TS := fun D σ H => D.nx σ H
noncomputable def tSeq (t u : TS) : TS := fun D σ H => t { D with nx := u D } σ H
theorem pss_nil : PSs X [] tNext := fun _ _ σ H _ I h => wpAny_execs_nil ⟨σ, H, I, h⟩
theorem pss_cons (h1 : PS X st t) (h2 : PSs X rest u) : PSs X (st :: rest) (tSeq t u) := by
  intro pins s σ H D I h
  refine wpAny_execs_cons (thn (h1 pins s σ H { D with nx := u D } I h) fun f s1 q => ?_)
  cases f with
  | next =>
    obtain ⟨σ', H', I', q⟩ := q
    exact h2 pins s1 σ' H' D I' q
  | ret v => exact q
  | brk => exact q
  | cont => exact q
theorem pss_one (h1 : PS X st t) : PSs X [st] t := by
  intro pins s σ H D I h
  refine wpAny_execs_cons (thn (h1 pins s σ H D I h) fun f s1 q => ?_)
  cases f with
  | next => exact wpAny_execs_nil q
  | ret v => exact q
  | brk => exact q
  | cont => exact q
theorem Inv.quiet {pins : List (Addr × Obj)} {σ : St} {H : Hp} {s : Shared} (I : Inv X pins σ H s) : interactive X.env = false := by simp [interactive, I.ok.kind]
noncomputable def tDrop (te : TE) : TS := fun D σ H => te σ H fun _ H1 => D.nx σ H1
theorem ps_expr (he : PE X e te) (hs : swapsWith e none pos.line X.env = pure false := by rfl) : PS X (.Expr e pos) (tDrop te) := by
  intro pins s σ H D I h
  exact wpAny_Expr_any (thn (he pins s σ H _ I h) fun v s1 ⟨x, H1, I1, r1, q1⟩ => ⟨σ, H1, I1, q1⟩) I.quiet hs
noncomputable def tRet (te : TE) : TS := fun D σ H => te σ H D.rt
theorem ps_ret (he : PE X e te) : PS X (.Return (some e) pos) (tRet te) := by
  intro pins s σ H D I h
  exact wpAny_Return_some (thn (he pins s σ H _ I h) fun v s1 ⟨x, H1, I1, r1, q1⟩ => ⟨x, σ, H1, I1, r1, q1⟩)
noncomputable def tIfS (c : TT) (t u : TS) : TS := fun D σ H => c σ H fun b H1 => if b = true then t D σ H1 else u D σ H1
theorem ps_if {c : Expr} {a b : List Stmt} {tc : TT} (hc : PT X c tc) (ha : PSs X a t) (hb : PSs X b u) : PS X (.If c a b pos) (tIfS tc t u) := by
  intro pins s σ H D I h
  refine wpAny_If (thn (hc pins s σ H _ I h) fun d s1 ⟨H1, I1, q1⟩ => ?_)
  cases d with
  | true => exact ha pins s1 σ H1 D I1 q1
  | false => exact hb pins s1 σ H1 D I1 q1
noncomputable def tNever : TS := fun _ _ _ => False
theorem pss_never {sts : List Stmt} : PSs X sts tNever := fun _ _ _ _ _ _ h => h.elim
end
noncomputable abbrev TG := V → St → Hp → (St → Hp → Prop) → Prop
noncomputable abbrev TGs := List V → St → Hp → (St → Hp → Prop) → Prop
noncomputable def PG (X : Cx) (target : Expr) (t : TG) : Prop :=
  ∀ (pins : List (Addr × Obj)) (s : Shared) (σ : St) (H : Hp) (v : V) (u : Value) (Q : St → Hp → Prop), Inv X pins σ H s → RelV v u → t v σ H Q →
    wpAny (model X.prog X.w) X.A (assign target X.env u) (fun _ s' => ∃ σ' H', Inv X pins σ' H' s' ∧ Q σ' H') X.xe s
noncomputable def PGs (X : Cx) (ts : List Expr) (t : TGs) : Prop :=
  ∀ (pins : List (Addr × Obj)) (s : Shared) (σ : St) (H : Hp) (vs : List V) (us : List Value) (Q : St → Hp → Prop), Inv X pins σ H s → Vals vs us → t vs σ H Q →
    wpAny (model X.prog X.w) X.A (assignInOrder ((assignEach ts X.env).map (·.2)) us) (fun _ s' => ∃ σ' H', Inv X pins σ' H' s' ∧ Q σ' H') X.xe s
noncomputable abbrev TSet := V → V → V → Hp → (Hp → Prop) → Prop
noncomputable def PSet (X : Cx) (t : TSet) : Prop :=
  ∀ (pins : List (Addr × Obj)) (s : Shared) (σ : St) (H : Hp) (o i v : V) (ov iv u : Value) (Q : Hp → Prop), Inv X pins σ H s → RelV o ov → RelV i iv → RelV v u → t o i v H Q →
    wpAny (model X.prog X.w) X.A (setItem ov iv u) (fun _ s' => ∃ H', Inv X pins σ H' s' ∧ Q H') X.xe s
noncomputable abbrev TIp := V → V → Hp → VK → Prop
noncomputable def PIp (X : Cx) (op : Operator) (t : TIp) : Prop :=
  ∀ (pins : List (Addr × Obj)) (s : Shared) (σ : St) (H : Hp) (x y : V) (v u : Value) (Q : VK), Inv X pins σ H s → RelV x v → RelV y u → t x y H Q →
    wpAny (model X.prog X.w) X.A (inplaceOp op v u) (EP X pins σ Q) X.xe s
section
variable {X : Cx} {pos : Pos}
noncomputable def gName (i : Nat) : TG := fun v σ H Q => Q (σ.set i (some v)) H
theorem pg_name {i : Nat} {x : Str} (hN : X.N.Nodup) (hi : X.N[i]? = some x) (hx : Loc X.env.scope x) (hf : X.fn x = true ∨ X.env.scope.names.lookup x = some .local := by first | exact .inl rfl | exact .inr rfl | assumption) : PG X (.Name x pos) (gName i) := by
  intro pins s σ H v u Q I r h
  exact wpAny_assign_Name (store_ok I hN hi hx r (fun s' I' => ⟨_, H, I', h⟩) hf)
noncomputable def gNil : TGs := fun vs σ H Q => vs = [] ∧ Q σ H
noncomputable def gCons (t : TG) (u : TGs) : TGs := fun vs σ H Q => ∃ v r, vs = v :: r ∧ t v σ H fun σ' H' => u r σ' H' Q
theorem pgs_nil : PGs X [] gNil := by
  intro pins s σ H vs us Q I r h
  obtain ⟨e, h⟩ := h
  subst e
  cases r
  exact assignInOrder_nil ⟨σ, H, I, h⟩
theorem pgs_cons {e : Expr} {es : List Expr} {t : TG} {u : TGs} (h1 : PG X e t) (h2 : PGs X es u)
    (hs : (assignEach (e :: es) X.env).map (·.2) = assign e X.env :: (assignEach es X.env).map (·.2) := by rfl) : PGs X (e :: es) (gCons t u) := by
  intro pins s σ H vs us Q I r h
  obtain ⟨v, vr, e1, h⟩ := h
  subst e1
  cases r with
  | cons r rr =>
    rw [hs]
    refine assignInOrder_cons (thn (h1 pins s σ H _ _ _ I r h) fun _ s1 ⟨σ1, H1, I1, q1⟩ => ?_)
    exact h2 pins s1 σ1 H1 _ _ Q I1 rr q1
noncomputable def gTup (K : PySem.W.Frag) (n : Nat) (t : TGs) : TG := fun v σ H Q => ∃ a xs, v = .ref a ∧ SqT K H a xs ∧ xs.length = n ∧ t xs σ H Q
theorem pg_tup {es : List Expr} {k : Nat} {t : TGs} {n : Nat} (hc : X.calm = true) (h : PGs X es t)
    (hn : (assignEach es X.env).length = n := by rfl) (hst : (assignEach es X.env).findIdx? (·.1) = none := by rfl) : PG X (.Tuple es k pos) (gTup X.K n t) := by
  intro pins s σ H v u Q I r hw
  obtain ⟨a, xs, e1, hq, hl, hw⟩ := hw
  subst e1
  cases r
  obtain ⟨its, rv, ht, hz⟩ := I.tuple hq
  refine assign_Tuple_tuple (I.ok.hd hc) ht (by simp [hn, ← hl, rv.length]) hst fun h' hx => ?_
  have I1 : Inv X pins σ H { s with heap := h' } := I.kept (t' := s.toks) fun b o e => hx b o (Nat.ne_of_lt (Heap.lt_size e)) e
  exact h pins _ σ H xs _ Q I1 (by simpa using rv) hw
noncomputable def gSub (to ti : TE) (t : TSet) : TG := fun v σ H Q => to σ H fun o H1 => ti σ H1 fun i H2 => t o i v H2 fun H3 => Q σ H3
theorem pg_sub {o i : Expr} {to ti : TE} {t : TSet} (ho : PE X o to) (hi : PE X i ti) (hs : PSet X t)
    (ha : ∀ v, assign (.Subscript o i pos) X.env v = (do
      let ov ← holding [v] (eval o X.env)
      let iv ← holding [v, ov] (eval i X.env)
      standAt pos
      holding [v, ov, iv] (setItem ov iv v)
      release [v, ov, iv] []) := by intro _; rfl) : PG X (.Subscript o i pos) (gSub to ti t) := by
  intro pins s σ H v u Q I r h
  rw [ha]
  refine wpAny_bind (wpAny_holding (thn (ho pins s σ H _ I h) fun ov s1 ⟨x, H1, I1, r1, q1⟩ => ?_))
  refine wpAny_bind (wpAny_holding (thn (hi pins s1 σ H1 _ I1 q1) fun iv s2 ⟨y, H2, I2, r2, q2⟩ => ?_))
  refine wpAny_bind (wpAny_standAt (wpAny_bind (wpAny_holding (thn (hs pins s2 σ H2 x y v ov iv u _ I2 r1 r2 r q2) fun _ s3 ⟨H3, I3, q3⟩ => ?_))))
  exact wpAny_release ⟨σ, H3, I3, q3⟩
noncomputable def tAsg (te : TE) (g : TG) : TS := fun D σ H => te σ H fun x H1 => g x σ H1 D.nx
theorem ps_asg {tg e : Expr} {te : TE} {g : TG} (he : PE X e te) (hg : PG X tg g) (hs : swapsWithSole [tg] e pos.line X.env = pure false := by rfl) (hw : swappedStores [tg] e X.env = pure none := by rfl)
    (h1 : (assignEach [tg] X.env).map (·.2) = [assign tg X.env] := by rfl) : PS X (.Assign [tg] e pos) (tAsg te g) := by
  intro pins s σ H D I h
  refine wpAny_Assign_stores (thn (he pins s σ H _ I h) fun v s1 ⟨x, H1, I1, r1, q1⟩ => ?_) hs hw
  rw [h1]
  exact thn (hg pins s1 σ H1 x v _ I1 r1 q1) fun _ s2 q => q
theorem ps_set {i : Nat} {x : Str} {e : Expr} {te : TE} {pos' : Pos} (hN : X.N.Nodup) (hi : X.N[i]? = some x) (hx : Loc X.env.scope x) (he : PE X e te) (hs : swapsWith e (some (.Name x pos')) pos.line X.env = pure false := by rfl) (hf : X.fn x = true ∨ X.env.scope.names.lookup x = some .local := by first | exact .inl rfl | exact .inr rfl | assumption) :
    PS X (.Assign [.Name x pos'] e pos) (tAsg te (gName i)) := by
  intro pins s σ H D I h
  refine wpAny_Assign_Name (thn (he pins s σ H _ I h) fun v s1 ⟨y, H1, I1, r1, q1⟩ => ?_) hs
  exact store_ok I1 hN hi hx r1 (fun s2 I2 => ⟨_, H1, I2, q1⟩) hf
noncomputable def tPar (i j : Nat) (ta : TA) : TS := fun D σ H => ta σ H fun vs H1 => ∃ v w, vs = [v, w] ∧ D.nx ((σ.set i (some v)).set j (some w)) H1
theorem ps_par {i j : Nat} {x y : Str} {a b : Expr} {ta : TA} {px py pt : Pos} {kt k2 pt2} (hc : X.calm = true) (hN : X.N.Nodup) (hi : X.N[i]? = some x) (hj : X.N[j]? = some y) (hij : i ≠ j)
    (hx : X.env.scope.names.lookup x = some .local) (hy : X.env.scope.names.lookup y = some .local) (ha : PA X [a, b] ta)
    (hw : swappedStores [.Tuple [.Name x px, .Name y py] kt pt] (.Tuple [a, b] k2 pt2) X.env = pure (some [x, y]))
    (hs : swapsWithSole [.Tuple [.Name x px, .Name y py] kt pt] (.Tuple [a, b] k2 pt2) pos.line X.env = pure false := by rfl) :
    PS X (.Assign [.Tuple [.Name x px, .Name y py] kt pt] (.Tuple [a, b] k2 pt2) pos) (tPar i j ta) := by
  intro pins s σ H D I h
  rw [exec_Assign_arm]
  refine wpAny_bind (wpAny_standAt ?_)
  rw [hs]
  refine wpAny_bind (wpAny_pure ?_)
  rw [if_neg (by decide)]
  refine wpAny_bind (Tuple_ (thn (ha _ pins s σ H _ I h) fun us s1 ⟨vs, H1, I1, r1, q1⟩ => ?_))
  obtain ⟨v, w, e1, q1⟩ := q1
  subst e1
  obtain ⟨u1, u2, rfl, rv, rw'⟩ : ∃ u1 u2, us = [u1, u2] ∧ RelV v u1 ∧ RelV w u2 := by
    cases r1 with
    | cons p q =>
      cases q with
      | cons p' q' =>
        cases q'
        exact ⟨_, _, rfl, p, p'⟩
  refine wpAny_newObj_type ?_ (by show 2 ≤ sizeLine; decide)
  have I2 : Inv X pins σ H1 { s1 with heap := s1.heap.push { cls := .type "tuple", data := .seq [u1, u2].toArray } } := I1.kept (t' := s1.toks) fun b o e => Heap.get?_push_of_some _ e
  rw [hw]
  refine wpAny_bind (wpAny_pure ?_)
  show wpAny (model X.prog X.w) X.A (do rule "assign.swapped-stores"; let items ← unpackItems (.ref s1.heap.objs.size) 2 none; assignInOrder [fun v => bindName X.env y v, fun v => bindName X.env x v] items.reverse; pure Flow.next) _ _ _
  refine wpAny_bind (wpAny_rule (wpAny_bind (unpackItems_tuple (items := #[u1, u2]) (I.ok.hd hc) (IsTup.new s1.heap _) fun h' hx' => ?_)))
  have I3 := I2.kept (h' := h') (t' := s1.toks) fun b o e => hx' b o (Nat.ne_of_lt (Heap.lt_size e)) e
  show wpAny _ _ (assignInOrder [fun v => bindName X.env y v, fun v => bindName X.env x v] [u2, u1] >>= fun _ => pure Flow.next) _ _ _
  refine wpAny_bind (assignInOrder_cons (wpAny_bindName (store_ok I3 hN hj (.inl hy) rw' (fun s2 I4 => ?_) (.inr hy))))
  refine assignInOrder_cons (wpAny_bindName (store_ok I4 hN hi (.inl hx) rv (fun s3 I5 => assignInOrder_nil (wpAny_pure ?_)) (.inr hx)))
  rw [List.set_comm _ _ (Ne.symm hij)] at I5
  exact ⟨_, H1, I5, q1⟩
noncomputable def tAug (i : Nat) (te : TE) (ti : TIp) : TS := fun D σ H => ∃ x, σ[i]? = some (some x) ∧ te σ H fun y H1 => ti x y H1 fun z H2 => D.nx (σ.set i (some z)) H2
theorem ps_aug {i : Nat} {x : Str} {e : Expr} {te : TE} {op : Operator} {ti : TIp} {pos' : Pos} (hN : X.N.Nodup) (hi : X.N[i]? = some x) (hx : Loc X.env.scope x) (he : PE X e te) (ho : PIp X op ti) (hf : X.fn x = true ∨ X.env.scope.names.lookup x = some .local := by first | exact .inl rfl | exact .inr rfl | assumption) :
    PS X (.AugAssign (.Name x pos') op e pos) (tAug i te ti) := by
  intro pins s σ H D I h
  obtain ⟨v, e1, h⟩ := h
  obtain ⟨m, hn, hl⟩ := I.loc
  have vis : Vis X.env.scope x := by rcases hx with k | k; exact .inl k; exact .inr (.inl k)
  obtain ⟨u, r, l⟩ := hl i x v hi e1 vis
  refine wpAny_AugAssign_Name ?_
  have go : wpAny (model X.prog X.w) X.A (eval e X.env) (fun w s₂ => wpAny (model X.prog X.w) X.A (inplaceOp op u w) (fun r s₃ => wpAny (model X.prog X.w) X.A (storeName X.env x r) (fun _ => SP X pins D .next) X.xe s₃) X.xe s₂) X.xe s := by
    refine thn (he pins s σ H _ I h) fun w s1 ⟨y, H1, I1, r1, q1⟩ => ?_
    refine thn (ho pins s1 σ H1 v y u w _ I1 r r1 q1) fun z s2 ⟨zv, H2, I2, r2, q2⟩ => ?_
    exact store_ok I2 hN hi hx r2 (fun s3 I3 => ⟨_, H2, I3, q2⟩) hf
  rcases l with ⟨hk, hm⟩ | ⟨hk, c, hc, hcell⟩
  · exact wpAny_loadName_local I.ok.kind hk hn hm go
  · rcases hk with hk | hk
    · exact wpAny_loadName_cell I.ok.kind hk hc hcell go
    · rcases hx with k | k
      · have : X.env.scope.names.lookup x = some .free := hk
        rw [k] at this; cases this
      · have : X.env.scope.names.lookup x = some .free := hk
        rw [k] at this; cases this
noncomputable def ipI (f : Int → Int → Int) : TIp := fun x y H Q => ∃ i j, x = .int i ∧ y = .int j ∧ Q (.int (f i j)) H
theorem ip_add : PIp X .Add (ipI fun i j => i + j) := by
  intro pins s σ H x y v u Q I r1 r2 h
  obtain ⟨i, j, e1, e2, q⟩ := h
  subst e1; subst e2
  obtain ⟨t, rfl⟩ := r1
  obtain ⟨t', rfl⟩ := r2
  exact iadd_int ⟨.int _, H, I.tok _, ⟨_, rfl⟩, q⟩
end
section
variable {X : Cx} {pos : Pos}
noncomputable def tWhile (c : TT) (tb : TS) : TS := fun D σ H => ∃ W : Nat → St → Hp → Prop, (∃ m, W m σ H) ∧ ∀ m σ H, W m σ H →
  c σ H fun b H1 => if b = true then ∃ N : St → Hp → Prop, (∀ σ' H', N σ' H' → ∃ m', m' < m ∧ W m' σ' H') ∧ tb { D with nx := N, ct := N, bk := D.nx } σ H1 else D.nx σ H1
theorem ps_while {c : Expr} {body : List Stmt} {tc : TT} {tb : TS} (hp : PassesOwn (model X.prog X.w) X.A X.env X.xe) (hc : PT X c tc) (hb : PSs X body tb) : PS X (.While c body [] pos) (tWhile tc tb) := by
  intro pins s σ H D I h
  obtain ⟨W, ⟨m0, w0⟩, turn⟩ := h
  refine wpAny_While (codeAny_whileLoop (fun n s' => ∃ σ' H', Inv X pins σ' H' s' ∧ W n σ' H') ?_ m0 ⟨σ, H, I, w0⟩)
  rintro n s1 ⟨σ1, H1, I1, w1⟩
  refine wpAny_passesOwn hp (thn (hc pins s1 σ1 H1 _ I1 (turn n σ1 H1 w1)) fun b s2 ⟨H2, I2, q2⟩ => ?_)
  cases b with
  | true =>
    obtain ⟨N, hN, q2⟩ := q2
    rw [if_pos rfl]
    refine wpAny_passesOwn hp (thn (hb pins s2 σ1 H2 _ I2 q2) fun f s3 q3 => ?_)
    cases f with
    | next =>
      obtain ⟨σ3, H3, I3, n3⟩ := q3
      obtain ⟨m', hm, w3⟩ := hN σ3 H3 n3
      exact ⟨m', hm, σ3, H3, I3, w3⟩
    | cont =>
      obtain ⟨σ3, H3, I3, n3⟩ := q3
      obtain ⟨m', hm, w3⟩ := hN σ3 H3 n3
      exact ⟨m', hm, σ3, H3, I3, w3⟩
    | brk => exact q3
    | ret v => exact q3
  | false =>
    rw [if_neg Bool.false_ne_true]
    exact wpAny_execs_nil ⟨σ1, H2, I2, q2⟩
end
structure It where
  go : Nat → Hp → Prop
  yld : Nat → Hp → V → Hp → Prop
  stop : Nat → Hp → Prop
noncomputable def FpOk (X : Cx) (pins : List (Addr × Obj)) (H : Hp) (b : Addr) : Prop :=
  H b = none ∧ b ≠ X.env.locals ∧ b ∉ X.fs ∧ (b ∈ X.ex ∨ X.s₀.heap.objs.size ≤ b) ∧ (∀ x c, X.env.cells.lookup x = some c → c ≠ b) ∧ ∀ p ∈ X.pn ++ pins, p.1 ≠ b
theorem Inv.fpOk {X : Cx} {pins : List (Addr × Obj)} {σ : St} {H H' : Hp} {s : Shared} {b : Addr} (I : Inv X pins σ H s) (hb : s.heap.objs.size ≤ b) (hn : H' b = none) : FpOk X pins H' b := by
  refine ⟨hn, Nat.ne_of_gt (Nat.lt_of_lt_of_le I.lt hb), I.nofs hb, .inr (Nat.le_trans I.sz hb), fun x c e z => ?_, fun p hp z => ?_⟩
  · obtain ⟨v, q⟩ := I.cell x c e
    exact absurd (Nat.lt_of_lt_of_le q.lt (by rw [z]; exact hb)) (Nat.lt_irrefl _)
  · exact absurd (Nat.lt_of_lt_of_le (Heap.lt_size (I.pin p hp).1) (by rw [z]; exact hb)) (Nat.lt_irrefl _)
structure Turn (P : Program) (w : World) (K : PySem.W.Frag) (tg : Expr) (J : It) (fp : List Addr) (it : Addr) (tn : Nat → Heap → Prop) : Prop where
  mem : it ∈ fp
  obj : ∀ i h, tn i h → ∀ b ∈ fp, ∃ o, h.get? b = some o ∧ ∀ v, o.data ≠ .cell v
  keep : ∀ i h h', tn i h → (∀ b ∈ fp, ∀ o, h.get? b = some o → h'.get? b = some o) → tn i h'
  item : ∀ (X : Cx), X.prog = P → X.w = w → X.K = K → X.calm = true → ∀ (i : Nat) (pins : List (Addr × Obj)) (s : Shared) (σ : St) (H : Hp) (E : Value → Shared → Prop), Inv X pins σ H s → (∀ b ∈ fp, FpOk X pins H b) → tn i s.heap → J.go i H →
    wpAny (model P w) X.A (pyNext (.ref it)) (fun r s1 => ∃ u, r = some u ∧
      wpAny (model P w) X.A (letOwnedTupleGo tg (.ref it) u) (fun _ s2 => ∃ x H', Inv X pins σ H' s2 ∧ RelV x u ∧ J.yld i H x H' ∧ tn (i + 1) s2.heap ∧ ∀ b ∈ fp, H' b = none) E s1) E s
  done : ∀ (X : Cx), X.prog = P → X.w = w → X.K = K → X.calm = true → ∀ (i : Nat) (pins : List (Addr × Obj)) (s : Shared) (σ : St) (H : Hp) (E : Value → Shared → Prop), Inv X pins σ H s → (∀ b ∈ fp, FpOk X pins H b) → tn i s.heap → J.stop i H →
    wpAny (model P w) X.A (pyNext (.ref it)) (fun r s1 => r = none ∧ Inv X pins σ H s1) E s
  self : ∀ (A : Around) (i : Nat) (s : Shared) (Q : Value → Shared → Prop) (E : Value → Shared → Prop), tn i s.heap → Q (.ref it) s → wpAny (model P w) A (pyIter (.ref it)) Q E s
noncomputable abbrev TI := St → Hp → (It → Hp → Prop) → Prop
noncomputable def PIE (X : Cx) (pins : List (Addr × Obj)) (σ : St) (tg : Expr) (R : It → Hp → Prop) (itv : Value) (s2 : Shared) : Prop :=
  ∃ (it : Addr) (fp : List Addr) (tn : Nat → Heap → Prop) (J : It) (H' : Hp), itv = .ref it ∧ Inv X pins σ H' s2 ∧ Turn X.prog X.w X.K tg J fp it tn ∧ tn 0 s2.heap ∧ (∀ b ∈ fp, FpOk X pins H' b) ∧ R J H'
noncomputable def PI (X : Cx) (tg iter : Expr) (wi : TI) : Prop :=
  ∀ (pins : List (Addr × Obj)) (s : Shared) (σ : St) (H : Hp) (R : It → Hp → Prop), Inv X pins σ H s → wi σ H R →
    wpAny (model X.prog X.w) X.A (eval iter X.env) (fun v s1 => wpAny (model X.prog X.w) X.A (pyIter v) (PIE X pins σ tg R) X.xe s1) X.xe s
theorem go_of {M : Model} {A : Around} {E : Value → Shared → Prop} {s : Shared} {tg : Expr} {it : Addr} {u : Value} {o : Obj} {n : String} {vs : Array Value} {Q : Unit → Shared → Prop} (ho : s.heap.get? it = some o) (hc : o.cls = .type n) (hd : o.data = .fields vs)
    (hn : ["enumerate", "zip", "dict_itemiterator", "dict_reverseitemiterator", "odict_iterator", "itertools.zip_longest", "itertools.pairwise"].contains n = false) (hQ : Q () s) : wpAny M A (letOwnedTupleGo tg (.ref it) u) Q E s := by
  unfold letOwnedTupleGo
  cases tg <;> first
    | exact wpAny_pure hQ
    | (cases u <;> first
        | exact wpAny_pure hQ
        | (refine wpAny_bind (wpAny_load ho ?_)
           rw [hc, hd]
           show wpAny M A (if (["enumerate", "zip", "dict_itemiterator", "dict_reverseitemiterator", "odict_iterator", "itertools.zip_longest", "itertools.pairwise"].contains n && vs[0]? == some (rawInt _)) = true then _ else _) Q E s
           rw [if_neg (by intro h; rw [hn, Bool.false_and] at h; cases h)]
           exact wpAny_pure hQ))
noncomputable def Itl (K : PySem.W.Frag) (a : Addr) : It :=
  ⟨fun i H => ∃ xs x, SqL K H a xs ∧ xs[i]? = some x, fun i H x H' => H' = H ∧ ∀ xs, SqL K H a xs → xs[i]? = some x, fun i H => ∃ xs, SqL K H a xs ∧ xs.length ≤ i⟩
noncomputable def Itt (K : PySem.W.Frag) (a : Addr) : It :=
  ⟨fun i H => ∃ xs x, SqT K H a xs ∧ xs[i]? = some x, fun i H x H' => H' = H ∧ ∀ xs, SqT K H a xs → xs[i]? = some x, fun i H => ∃ xs, SqT K H a xs ∧ xs.length ≤ i⟩
noncomputable def Itr (lo : Int) (n : Nat) : It := ⟨fun i _ => i < n, fun i H x H' => H' = H ∧ x = .int (lo + i), fun i _ => n ≤ i⟩
theorem turn_list {P : Program} {w : World} {K : PySem.W.Frag} {tg : Expr} (a it : Addr) : Turn P w K tg (Itl K a) [it] it (fun i h => h.IsListIter it a i) where
  mem := by simp
  obj := fun i h st b hb => by
    have e : b = it := by simpa using hb
    subst e
    obtain ⟨o, e, c, d⟩ := st
    exact ⟨o, e, fun v z => by rw [d] at z; cases z⟩
  keep := fun i h h' st k => st.at fun o e => k it (by simp) o e
  item := by
    intro X hP hw hK hc i pins s σ H E I hf st hg
    subst hP hw hK
    obtain ⟨xs, x, hq, hx⟩ := hg
    obtain ⟨its, rv, p, hz⟩ := I.list hq
    obtain ⟨u, hu, ru⟩ := rv.get hx
    obtain ⟨f0, f1, f2, f3, f4, f5⟩ := hf it (by simp)
    refine wpAny_pyNext_list_item st p.isList (x := u) (by simpa using hu) fun h' st' sb => ?_
    have I1 : Inv X pins σ H { s with heap := h' } := I.turned (t' := s.toks) (fun b o hb e => (sb.2 b hb).trans e) f0 f1 f3 f4 f5
    obtain ⟨o, e, c, d⟩ := id st'
    exact ⟨u, rfl, go_of (s := { s with heap := h' }) e c d (by decide) ⟨x, H, I1, ru, ⟨rfl, fun ys hy => by rw [I.list_inj hy hq]; exact hx⟩, st', fun b hb => (hf b hb).1⟩⟩
  done := by
    intro X hP hw hK hc i pins s σ H E I hf st hg
    subst hP hw hK
    obtain ⟨xs, hq, hx⟩ := hg
    obtain ⟨its, rv, p, hz⟩ := I.list hq
    obtain ⟨f0, f1, f2, f3, f4, f5⟩ := hf it (by simp)
    have hl := rv.length
    exact wpAny_pyNext_list_end (I.ok.hd hc) st p.isList (by simp; omega) fun h' eb => ⟨rfl, I.turned (t' := s.toks) (fun b o hb e => eb b o hb e) f0 f1 f3 f4 f5⟩
  self := fun _ _ _ _ _ st h => wpAny_pyIter_listiter st h
theorem turn_tuple {P : Program} {w : World} {K : PySem.W.Frag} {tg : Expr} (a it : Addr) : Turn P w K tg (Itt K a) [it] it (fun i h => h.IsTupleIter it a i) where
  mem := by simp
  obj := fun i h st b hb => by
    have e : b = it := by simpa using hb
    subst e
    obtain ⟨o, e, c, d⟩ := st
    exact ⟨o, e, fun v z => by rw [d] at z; cases z⟩
  keep := fun i h h' st k => st.at fun o e => k it (by simp) o e
  item := by
    intro X hP hw hK hc i pins s σ H E I hf st hg
    subst hP hw hK
    obtain ⟨xs, x, hq, hx⟩ := hg
    obtain ⟨its, rv, p, hz⟩ := I.tuple hq
    obtain ⟨u, hu, ru⟩ := rv.get hx
    obtain ⟨f0, f1, f2, f3, f4, f5⟩ := hf it (by simp)
    refine wpAny_pyNext_tuple_item st (show s.heap.IsTuple a its.toArray from p) (x := u) (by simpa using hu) fun h' st' sb => ?_
    have I1 : Inv X pins σ H { s with heap := h' } := I.turned (t' := s.toks) (fun b o hb e => (sb.2 b hb).trans e) f0 f1 f3 f4 f5
    obtain ⟨o, e, c, d⟩ := id st'
    exact ⟨u, rfl, go_of (s := { s with heap := h' }) e c d (by decide) ⟨x, H, I1, ru, ⟨rfl, fun ys hy => by rw [I.tuple_inj hy hq]; exact hx⟩, st', fun b hb => (hf b hb).1⟩⟩
  done := by
    intro X hP hw hK hc i pins s σ H E I hf st hg
    subst hP hw hK
    obtain ⟨xs, hq, hx⟩ := hg
    obtain ⟨its, rv, p, hz⟩ := I.tuple hq
    obtain ⟨f0, f1, f2, f3, f4, f5⟩ := hf it (by simp)
    have hl := rv.length
    exact wpAny_pyNext_tuple_end (I.ok.hd hc) st (show s.heap.IsTuple a its.toArray from p) (by simp; omega) fun h' eb => ⟨rfl, I.turned (t' := s.toks) (fun b o hb e => eb b o hb e) f0 f1 f3 f4 f5⟩
  self := fun _ _ _ _ _ st h => wpAny_pyIter_tupleiter st h
theorem turn_range {P : Program} {w : World} {K : PySem.W.Frag} {tg : Expr} (it : Addr) (lo : Int) (n : Nat) : Turn P w K tg (Itr lo n) [it] it (fun i h => IsRangeIter h it (lo + (i : Nat) * 1) ((n : Int) - (i : Nat)) 1) where
  mem := by simp
  obj := fun i h st b hb => by
    have e : b = it := by simpa using hb
    subst e
    exact ⟨_, st, fun v z => by
      have z' : Data.fields _ = Data.cell v := z
      cases z'⟩
  keep := fun i h h' st k => k it (by simp) _ st
  item := by
    intro X hP hw hK hc i pins s σ H E I hf st hg
    subst hP hw hK
    obtain ⟨f0, f1, f2, f3, f4, f5⟩ := hf it (by simp)
    have W := Walks.range (prog := X.prog) (w := X.w) (I.ok.hd hc) it lo 1 n
    refine W.item i s _ _ hg st fun v h' tk hv st' kk => ?_
    obtain ⟨t, rfl⟩ := hv
    have I1 : Inv X pins σ H { s with heap := h', toks := tk } := I.turned (fun b o hb e => kk b o (by simpa using hb) e) f0 f1 f3 f4 f5
    refine ⟨_, rfl, go_of (s := { s with heap := h', toks := tk }) (n := "range_iterator") st' rfl rfl (by decide) ⟨.int (lo + i), H, I1, ⟨t, ?_⟩, ⟨rfl, rfl⟩, st', fun b hb => (hf b hb).1⟩⟩
    rw [Int.mul_one]
  done := by
    intro X hP hw hK hc i pins s σ H E I hf st hg
    subst hP hw hK
    obtain ⟨f0, f1, f2, f3, f4, f5⟩ := hf it (by simp)
    exact wpAny_pyNext_range_end (I.ok.hd hc) st (by have : n ≤ i := hg; omega) fun h' eb => ⟨rfl, I.turned (t' := s.toks) (fun b o hb e => eb b o hb e) f0 f1 f3 f4 f5⟩
  self := fun _ _ _ _ _ st h => wpAny_pyIter_rangeiter st h
end L2
namespace L2
open PySem PySem.Spec PyProof.Rows
section
variable {X : Cx} {tg : Expr}
noncomputable def iList (K : PySem.W.Frag) (tl : TE) : TI := fun σ H R => tl σ H fun x H1 => ∃ a, x = .ref a ∧ (∃ xs, SqL K H1 a xs) ∧ R (Itl K a) H1
noncomputable def iTup (K : PySem.W.Frag) (tl : TE) : TI := fun σ H R => tl σ H fun x H1 => ∃ a, x = .ref a ∧ (∃ xs, SqT K H1 a xs) ∧ R (Itt K a) H1
theorem pi_list {l : Expr} {tl : TE} (hl : PE X l tl) : PI X tg l (iList X.K tl) := by
  intro pins s σ H R I h
  refine thn (hl pins s σ H _ I h) fun v s1 ⟨x, H1, I1, r1, q1⟩ => ?_
  obtain ⟨a, e, ⟨xs, hq⟩, q⟩ := q1
  subst e
  cases r1
  obtain ⟨its, rv, p, hz⟩ := I1.list hq
  refine wpAny_pyIter_list p.isList ?_
  refine ⟨s1.heap.objs.size, [s1.heap.objs.size], _, _, H1, rfl, I1.kept (t' := s1.toks) fun b o e => Heap.get?_push_of_some _ e, turn_list a _, ⟨_, Heap.get?_push_size _ rfl, rfl, rfl⟩, fun b hb => ?_, q⟩
  have e : b = s1.heap.objs.size := by simpa using hb
  subst e
  exact I1.fpOk (Nat.le_refl _) (I1.hok.fresh (Nat.le_refl _))
theorem pi_tup {l : Expr} {tl : TE} (hl : PE X l tl) : PI X tg l (iTup X.K tl) := by
  intro pins s σ H R I h
  refine thn (hl pins s σ H _ I h) fun v s1 ⟨x, H1, I1, r1, q1⟩ => ?_
  obtain ⟨a, e, ⟨xs, hq⟩, q⟩ := q1
  subst e
  cases r1
  obtain ⟨its, rv, p, hz⟩ := I1.tuple hq
  refine wpAny_pyIter_tuple (show s1.heap.IsTuple a its.toArray from p) ?_
  refine ⟨s1.heap.objs.size, [s1.heap.objs.size], _, _, H1, rfl, I1.kept (t' := s1.toks) fun b o e => Heap.get?_push_of_some _ e, turn_tuple a _, ⟨_, Heap.get?_push_size _ rfl, rfl, rfl⟩, fun b hb => ?_, q⟩
  have e : b = s1.heap.objs.size := by simpa using hb
  subst e
  exact I1.fpOk (Nat.le_refl _) (I1.hok.fresh (Nat.le_refl _))
theorem range_it {pins : List (Addr × Obj)} {σ : St} {H : Hp} {s : Shared} {R : It → Hp → Prop} {E : Value → Shared → Prop} {lo hi : Int} {t u v : Tok} {tk : Nat} (I : Inv X pins σ H s) (h1 : -(2 ^ 62) ≤ lo) (h2 : lo < 2 ^ 62) (h3 : -(2 ^ 62) ≤ hi) (h4 : hi < 2 ^ 62)
    (q : R (Itr lo (hi - lo).toNat) H) : wpAny (model X.prog X.w) X.A (pyIter (.ref s.heap.objs.size)) (PIE X pins σ tg R) E { s with heap := s.heap.push { cls := .type "range", data := .fields #[.int lo t, .int hi u, .int 1 v] }, toks := tk } := by
  refine wpAny_pyIter_range (IsRange.new ..) (small_one h1 h2 h3 h4) ?_
  have I1 : Inv X pins σ H { s with heap := s.heap.push { cls := .type "range", data := .fields #[.int lo t, .int hi u, .int 1 v] }, toks := tk } := I.kept fun b o e => Heap.get?_push_of_some _ e
  refine ⟨(s.heap.push { cls := .type "range", data := .fields #[.int lo t, .int hi u, .int 1 v] }).objs.size, [(s.heap.push { cls := .type "range", data := .fields #[.int lo t, .int hi u, .int 1 v] }).objs.size], _, _, H, rfl,
    I1.kept (t' := tk) fun b o e => Heap.get?_push_of_some _ e, turn_range _ lo (hi - lo).toNat, ?_, fun b hb => ?_, q⟩
  · have e1 : lo + ((0 : Nat) : Int) * 1 = lo := by simp
    have e2 : (((hi - lo).toNat : Nat) : Int) - ((0 : Nat) : Int) = Builtin.Range.rangeSize lo hi 1 := by rw [rangeSize_one]; split <;> omega
    show IsRangeIter _ _ (lo + ((0 : Nat) : Int) * 1) ((((hi - lo).toNat : Nat) : Int) - ((0 : Nat) : Int)) 1
    rw [e1, e2]
    exact Heap.get?_push_size _ rfl
  · have e : b = (s.heap.push { cls := .type "range", data := .fields #[.int lo t, .int hi u, .int 1 v] }).objs.size := by simpa using hb
    subst e
    exact I1.fpOk (Nat.le_refl _) (I1.hok.fresh (Nat.le_refl _))
noncomputable def iRng1 (ta : TA) : TI := fun σ H R => ta σ H fun vs H1 => ∃ j : Int, vs = [.int j] ∧ -(2 ^ 62) ≤ j ∧ j < 2 ^ 62 ∧ R (Itr 0 j.toNat) H1
theorem pi_range1 {a : Expr} {ta : TA} {p pos : Pos} (hg : Gl X "range") (hm : X.mg "range" = none) (ha : PA X [a] ta) (hs : starEach [a] X.env = [(false, eval a X.env)] := by rfl) : PI X tg (.Call (.Name "range" p) [a] [] pos) (iRng1 ta) := by
  intro pins s σ H R I h
  refine Call_ (ld_blt I hg hm boot_range (PyProof.Rows.callWith_type1 (thn (ha pos pins s σ H _ I h) fun us s1 ⟨vs, H1, I1, r1, q1⟩ => ?_) hs rfl))
  obtain ⟨j, e, q1, q2, q⟩ := q1
  subst e
  cases r1 with
  | cons r rr =>
    cases rr
    obtain ⟨t, rfl⟩ := r
    exact call_range_1 (range_it I1 (by omega) (by omega) q1 q2 (by simpa using q))
noncomputable def tFor (wi : TI) (g : TG) (tb : TS) : TS := fun D σ H => wi σ H fun J H1 => ∃ W : Nat → Nat → St → Hp → Prop, (∃ m, W 0 m σ H1) ∧ ∀ i m σ H, W i m σ H →
  (J.stop i H ∧ D.nx σ H) ∨ (J.go i H ∧ ∃ N : St → Hp → Prop, (∀ σ' H', N σ' H' → ∃ m', m' < m ∧ W (i + 1) m' σ' H') ∧ ∀ x H', J.yld i H x H' → g x σ H' fun σ2 H2 => tb { D with nx := N, ct := N, bk := D.nx } σ2 H2)
noncomputable def pinsAt (fp : List Addr) (h : Heap) : List (Addr × Obj) := fp.filterMap fun b => (h.get? b).map fun o => (b, o)
theorem mem_pinsAt {fp : List Addr} {h : Heap} {b : Addr} {o : Obj} (hb : b ∈ fp) (e : h.get? b = some o) : (b, o) ∈ pinsAt fp h := List.mem_filterMap.mpr ⟨b, hb, by rw [e]; rfl⟩
theorem of_pinsAt {fp : List Addr} {h : Heap} {p : Addr × Obj} (hp : p ∈ pinsAt fp h) : p.1 ∈ fp ∧ h.get? p.1 = some p.2 := by
  obtain ⟨b, hb, e⟩ := List.mem_filterMap.mp hp
  cases q : h.get? b with
  | none => rw [q] at e; cases e
  | some o =>
    rw [q] at e
    have e' : (b, o) = p := Option.some.inj e
    subst e'
    exact ⟨hb, q⟩
theorem Inv.pinned {pins : List (Addr × Obj)} {σ : St} {H : Hp} {s : Shared} {fp : List Addr} (I : Inv X pins σ H s) (hf : ∀ b ∈ fp, FpOk X pins H b) (ho : ∀ b ∈ fp, ∃ o, s.heap.get? b = some o ∧ ∀ v, o.data ≠ .cell v) : Inv X (pins ++ pinsAt fp s.heap) σ H s :=
  I.pins_of fun p hp => (List.mem_append.mp hp).elim (fun z => I.pin p (List.mem_append_right _ z)) fun z => by
    obtain ⟨hb, e⟩ := of_pinsAt z
    obtain ⟨f0, f1, f2, _⟩ := hf p.1 hb
    obtain ⟨o, e', d⟩ := ho p.1 hb
    rw [e] at e'; cases e'
    exact ⟨e, f0, f1, f2, d⟩
theorem Inv.unpinned {pins pl : List (Addr × Obj)} {σ : St} {H : Hp} {s : Shared} (I : Inv X (pins ++ pl) σ H s) : Inv X pins σ H s := I.pins_of fun p hp => I.pin p (List.mem_append_right _ (List.mem_append_left _ hp))
theorem ps_for {iter : Expr} {body : List Stmt} {wi : TI} {g : TG} {tb : TS} {pos : Pos} (hp : PassesOwn (model X.prog X.w) X.A X.env X.xe) (hc : X.calm = true) (hi : PI X tg iter wi) (hg : PG X tg g) (hb : PSs X body tb)
    (hs : ∀ x, foldedSetIterable iter X.env x = pure x := by intro _; rfl) : PS X (.For tg iter body [] pos) (tFor wi g tb) := by
  intro pins s σ H D I h
  refine wpAny_For (thn (hi pins s σ H _ I h) fun v s1 h1 => thn h1 fun itv s2 h2 => ?_) hs
  obtain ⟨it, fp, tn, J, H2, e, I2, T, st2, f2, W, ⟨m0, w0⟩, turn⟩ := h2
  subst e
  -- what stays true of the iterator's objects through the loop
  have stat : ∀ {H' : Hp}, (∀ b ∈ fp, H' b = none) → ∀ b ∈ fp, FpOk X pins H' b := fun hn b hb => ⟨hn b hb, (f2 b hb).2⟩
  refine codeAny_forLoop_any (fun n s' => ∃ i σ' H', Inv X pins σ' H' s' ∧ tn i s'.heap ∧ (∀ b ∈ fp, H' b = none) ∧ W i n σ' H') ?_ m0 ⟨0, σ, H2, I2, st2, fun b hb => (f2 b hb).1, w0⟩
  rintro n s3 ⟨i, σ3, H3, I3, st3, fr3, w3⟩
  rcases turn i n σ3 H3 w3 with ⟨stop, qn⟩ | ⟨go, N, hN, step⟩
  · refine wpAny_passesOwn hp (thn (T.done X rfl rfl rfl hc i pins s3 σ3 H3 X.xe I3 (stat fr3) st3 stop) fun r s4 ⟨hr, I4⟩ => ?_)
    subst hr
    exact wpAny_execs_nil ⟨σ3, H3, I4, qn⟩
  · refine wpAny_passesOwn hp (thn (T.item X rfl rfl rfl hc i pins s3 σ3 H3 X.xe I3 (stat fr3) st3 go) fun r s4 ⟨u, hr, h4⟩ => ?_)
    subst hr
    refine wpAny_passesOwn hp (thn h4 fun _ s5 ⟨x, H5, I5, r5, y5, st5, fr5⟩ => ?_)
    have I5' := I5.pinned (stat fr5) (T.obj _ _ st5)
    refine wpAny_passesOwn hp (thn (hg _ s5 σ3 H5 x u _ I5' r5 (step x H5 y5)) fun _ s6 ⟨σ6, H6, I6, q6⟩ => ?_)
    refine wpAny_passesOwn hp (thn (hb _ s6 σ6 H6 _ I6 q6) fun f s7 q7 => ?_)
    have again : ∀ {σ7 : St} {H7 : Hp}, Inv X (pins ++ pinsAt fp s5.heap) σ7 H7 s7 → N σ7 H7 → ∃ m, m < n ∧ ∃ i σ' H', Inv X pins σ' H' s7 ∧ tn i s7.heap ∧ (∀ b ∈ fp, H' b = none) ∧ W i m σ' H' := fun {σ7 H7} I7 n7 => by
      obtain ⟨m', hm, w7⟩ := hN σ7 H7 n7
      refine ⟨m', hm, i + 1, σ7, H7, I7.unpinned, T.keep _ _ _ st5 fun b hb o e => (I7.pin (b, o) (List.mem_append_right _ (List.mem_append_right _ (mem_pinsAt hb e)))).1, fun b hb => ?_, w7⟩
      obtain ⟨o, e, d⟩ := T.obj _ _ st5 b hb
      exact (I7.pin (b, o) (List.mem_append_right _ (List.mem_append_right _ (mem_pinsAt hb e)))).2.1
    cases f with
    | next => obtain ⟨σ7, H7, I7, n7⟩ := q7; exact again I7 n7
    | cont => obtain ⟨σ7, H7, I7, n7⟩ := q7; exact again I7 n7
    | brk => obtain ⟨σ7, H7, I7, q7⟩ := q7; exact ⟨σ7, H7, I7.unpinned, q7⟩
    | ret v => obtain ⟨x7, σ7, H7, I7, r7, q7⟩ := q7; exact ⟨x7, σ7, H7, I7.unpinned, r7, q7⟩
end
theorem for_list {K : PySem.W.Frag} {a : Addr} {xs : List V} {g : TG} {tb : TS} {D : Ends} {σ : St} {H : Hp} (Pv : Nat → St → Hp → Prop) (h0 : Pv 0 σ H) (hl : ∀ i σ H, i ≤ xs.length → Pv i σ H → SqL K H a xs)
    (hs : ∀ i x σ H, xs[i]? = some x → Pv i σ H → g x σ H fun σ2 H2 => tb { D with nx := Pv (i + 1), ct := Pv (i + 1), bk := D.nx } σ2 H2) (hd : ∀ σ H, Pv xs.length σ H → D.nx σ H) :
    ∃ W : Nat → Nat → St → Hp → Prop, (∃ m, W 0 m σ H) ∧ ∀ i m σ H, W i m σ H →
      ((Itl K a).stop i H ∧ D.nx σ H) ∨ ((Itl K a).go i H ∧ ∃ N : St → Hp → Prop, (∀ σ' H', N σ' H' → ∃ m', m' < m ∧ W (i + 1) m' σ' H') ∧ ∀ x H', (Itl K a).yld i H x H' → g x σ H' fun σ2 H2 => tb { D with nx := N, ct := N, bk := D.nx } σ2 H2) := by
  refine ⟨fun i m σ H => m = xs.length - i ∧ i ≤ xs.length ∧ Pv i σ H, ⟨xs.length, by simp, Nat.zero_le _, h0⟩, ?_⟩
  rintro i m σ H ⟨rfl, hi, p⟩
  have q := hl i σ H hi p
  by_cases hlt : i < xs.length
  · refine .inr ⟨⟨xs, xs[i], q, by simp [hlt]⟩, Pv (i + 1), fun σ' H' p' => ⟨xs.length - (i + 1), by omega, rfl, hlt, p'⟩, fun x H' y => ?_⟩
    obtain ⟨e, y⟩ := y
    subst e
    exact hs i x σ _ (y xs q) p
  · have e : i = xs.length := by omega
    subst e
    exact .inl ⟨⟨xs, q, Nat.le_refl _⟩, hd σ H p⟩
theorem for_tup {K : PySem.W.Frag} {a : Addr} {xs : List V} {g : TG} {tb : TS} {D : Ends} {σ : St} {H : Hp} (Pv : Nat → St → Hp → Prop) (h0 : Pv 0 σ H) (hl : ∀ i σ H, i ≤ xs.length → Pv i σ H → SqT K H a xs)
    (hs : ∀ i x σ H, xs[i]? = some x → Pv i σ H → g x σ H fun σ2 H2 => tb { D with nx := Pv (i + 1), ct := Pv (i + 1), bk := D.nx } σ2 H2) (hd : ∀ σ H, Pv xs.length σ H → D.nx σ H) :
    ∃ W : Nat → Nat → St → Hp → Prop, (∃ m, W 0 m σ H) ∧ ∀ i m σ H, W i m σ H →
      ((Itt K a).stop i H ∧ D.nx σ H) ∨ ((Itt K a).go i H ∧ ∃ N : St → Hp → Prop, (∀ σ' H', N σ' H' → ∃ m', m' < m ∧ W (i + 1) m' σ' H') ∧ ∀ x H', (Itt K a).yld i H x H' → g x σ H' fun σ2 H2 => tb { D with nx := N, ct := N, bk := D.nx } σ2 H2) := by
  refine ⟨fun i m σ H => m = xs.length - i ∧ i ≤ xs.length ∧ Pv i σ H, ⟨xs.length, by simp, Nat.zero_le _, h0⟩, ?_⟩
  rintro i m σ H ⟨rfl, hi, p⟩
  have q := hl i σ H hi p
  by_cases hlt : i < xs.length
  · refine .inr ⟨⟨xs, xs[i], q, by simp [hlt]⟩, Pv (i + 1), fun σ' H' p' => ⟨xs.length - (i + 1), by omega, rfl, hlt, p'⟩, fun x H' y => ?_⟩
    obtain ⟨e, y⟩ := y
    subst e
    exact hs i x σ _ (y xs q) p
  · have e : i = xs.length := by omega
    subst e
    exact .inl ⟨⟨xs, q, Nat.le_refl _⟩, hd σ H p⟩
theorem for_range {lo : Int} {n : Nat} {g : TG} {tb : TS} {D : Ends} {σ : St} {H : Hp} (Pv : Nat → St → Hp → Prop) (h0 : Pv 0 σ H)
    (hs : ∀ i σ H, i < n → Pv i σ H → g (.int (lo + i)) σ H fun σ2 H2 => tb { D with nx := Pv (i + 1), ct := Pv (i + 1), bk := D.nx } σ2 H2) (hd : ∀ σ H, Pv n σ H → D.nx σ H) :
    ∃ W : Nat → Nat → St → Hp → Prop, (∃ m, W 0 m σ H) ∧ ∀ i m σ H, W i m σ H →
      ((Itr lo n).stop i H ∧ D.nx σ H) ∨ ((Itr lo n).go i H ∧ ∃ N : St → Hp → Prop, (∀ σ' H', N σ' H' → ∃ m', m' < m ∧ W (i + 1) m' σ' H') ∧ ∀ x H', (Itr lo n).yld i H x H' → g x σ H' fun σ2 H2 => tb { D with nx := N, ct := N, bk := D.nx } σ2 H2) := by
  refine ⟨fun i m σ H => m = n - i ∧ i ≤ n ∧ Pv i σ H, ⟨n, by simp, Nat.zero_le _, h0⟩, ?_⟩
  rintro i m σ H ⟨rfl, hi, p⟩
  by_cases hlt : i < n
  · refine .inr ⟨hlt, Pv (i + 1), fun σ' H' p' => ⟨n - (i + 1), by omega, rfl, hlt, p'⟩, fun x H' y => ?_⟩
    obtain ⟨e, y⟩ := y
    subst e y
    exact hs i σ _ hlt p
  · have e : i = n := by omega
    subst e
    exact .inl ⟨Nat.le_refl _, hd σ H p⟩
end L2
namespace L2
open PySem PySem.Spec PyProof.Rows
noncomputable abbrev R2 := V → V → Hp → VK → Prop
noncomputable def OpR (X : Cx) (f : Value → Value → Sem Value) (r : R2) : Prop :=
  ∀ (pins : List (Addr × Obj)) (s : Shared) (σ : St) (H : Hp) (x y : V) (v u : Value) (Q : VK), Inv X pins σ H s → RelV x v → RelV y u → r x y H Q →
    wpAny (model X.prog X.w) X.A (f v u) (EP X pins σ Q) X.xe s
noncomputable def UnR (X : Cx) (f : Value → Sem Value) (r : V → Hp → VK → Prop) : Prop :=
  ∀ (pins : List (Addr × Obj)) (s : Shared) (σ : St) (H : Hp) (x : V) (v : Value) (Q : VK), Inv X pins σ H s → RelV x v → r x H Q →
    wpAny (model X.prog X.w) X.A (f v) (EP X pins σ Q) X.xe s
noncomputable def CallR (X : Cx) (f : Value) (r : List V → Hp → VK → Prop) : Prop :=
  ∀ (pins : List (Addr × Obj)) (s : Shared) (σ : St) (H : Hp) (xs : List V) (us : List Value) (Q : VK), Inv X pins σ H s → Vals xs us → r xs H Q →
    wpAny (model X.prog X.w) X.A (call f us) (EP X pins σ Q) X.xe s
noncomputable def tOp (r : R2) (ta tb : TE) : TE := fun σ H Q => ta σ H fun x H1 => tb σ H1 fun y H2 => r x y H2 Q
noncomputable def tUn (r : V → Hp → VK → Prop) (ta : TE) : TE := fun σ H Q => ta σ H fun x H1 => r x H1 Q
noncomputable def rI (C : Int → Int → Prop) (g : Int → Int → V) : R2 := fun x y H Q => ∃ i j, x = .int i ∧ y = .int j ∧ C i j ∧ Q (g i j) H
noncomputable def rI0 (g : Int → Int → V) : R2 := fun x y H Q => ∃ i j, x = .int i ∧ y = .int j ∧ Q (g i j) H
noncomputable def rU (g : Int → V) : V → Hp → VK → Prop := fun x H Q => ∃ i, x = .int i ∧ Q (g i) H
section
variable {X : Cx} {a b c : Expr} {ta tb tc : TE} {pos : Pos}
theorem binT (ha : PE X a ta) (hb : PE X b tb) {pins : List (Addr × Obj)} {s : Shared} {σ : St} {H : Hp} {R : V → V → Hp → Prop} (I : Inv X pins σ H s)
    (h : ta σ H fun x H1 => tb σ H1 fun y H2 => R x y H2) {Q : Value → Shared → Prop} {f : Value → Value → Sem Value}
    (hf : ∀ v u s2 x y H2, Inv X pins σ H2 s2 → RelV x v → RelV y u → R x y H2 → wpAny (model X.prog X.w) X.A (f v u) Q X.xe s2) :
    wpAny (model X.prog X.w) X.A (eval a X.env) (fun v s₁ => wpAny (model X.prog X.w) X.A (eval b X.env) (fun u s₂ => wpAny (model X.prog X.w) X.A (f v u) Q X.xe s₂) X.xe s₁) X.xe s := by
  refine thn (ha pins s σ H _ I h) fun v s1 ⟨x, H1, I1, r1, q1⟩ => ?_
  refine thn (hb pins s1 σ H1 _ I1 q1) fun u s2 ⟨y, H2, I2, r2, q2⟩ => ?_
  exact hf v u s2 x y H2 I2 r1 r2 q2
theorem pe_op {op : Operator} {r : R2} (ho : OpR X (binaryOp op) r) (ha : PE X a ta) (hb : PE X b tb) : PE X (.BinOp a op b pos) (tOp r ta tb) := by
  intro pins s σ H Q I h
  exact wpAny_BinOp (binT ha hb I h fun v u s2 x y H2 I2 rx ry q => ho pins s2 σ H2 x y v u Q I2 rx ry q)
theorem pe_un {op : UnaryOp} {r : V → Hp → VK → Prop} (ho : UnR X (unaryOp op) r) (ha : PE X a ta) : PE X (.UnaryOp op a pos) (tUn r ta) := by
  intro pins s σ H Q I h
  exact UnaryOp_ (thn (ha pins s σ H _ I h) fun v s1 ⟨x, H1, I1, r1, q1⟩ => ho pins s1 σ H1 x v Q I1 r1 q1)
theorem opI {f : Value → Value → Sem Value} {C : Int → Int → Prop} {g : Int → Int → Int}
    (rule : ∀ (i j : Int) (t u : Tok) (s : Shared) (Q : Value → Shared → Prop) (E : Value → Shared → Prop), C i j → Q (.int (g i j) s.toks) { s with toks := s.toks + 1 } → wpAny (model X.prog X.w) X.A (f (.int i t) (.int j u)) Q E s) :
    OpR X f (rI C fun i j => .int (g i j)) := by
  intro pins s σ H x y v u Q I rx ry h
  obtain ⟨i, j, rfl, rfl, hc, q⟩ := h
  obtain ⟨t, rfl⟩ := rx
  obtain ⟨t', rfl⟩ := ry
  exact rule i j t t' s _ _ hc ⟨.int (g i j), H, I.tok _, ⟨_, rfl⟩, q⟩
theorem opI0 {f : Value → Value → Sem Value} {g : Int → Int → Int}
    (rule : ∀ (i j : Int) (t u : Tok) (s : Shared) (Q : Value → Shared → Prop) (E : Value → Shared → Prop), Q (.int (g i j) s.toks) { s with toks := s.toks + 1 } → wpAny (model X.prog X.w) X.A (f (.int i t) (.int j u)) Q E s) :
    OpR X f (rI0 fun i j => .int (g i j)) := by
  intro pins s σ H x y v u Q I rx ry h
  obtain ⟨i, j, rfl, rfl, q⟩ := h
  obtain ⟨t, rfl⟩ := rx
  obtain ⟨t', rfl⟩ := ry
  exact rule i j t t' s _ _ ⟨.int (g i j), H, I.tok _, ⟨_, rfl⟩, q⟩
theorem opB0 {f : Value → Value → Sem Value} {g : Int → Int → Bool}
    (rule : ∀ (i j : Int) (t u : Tok) (s : Shared) (Q : Value → Shared → Prop) (E : Value → Shared → Prop), Q (.bool (g i j)) s → wpAny (model X.prog X.w) X.A (f (.int i t) (.int j u)) Q E s) :
    OpR X f (rI0 fun i j => .bl (g i j)) := by
  intro pins s σ H x y v u Q I rx ry h
  obtain ⟨i, j, rfl, rfl, q⟩ := h
  obtain ⟨t, rfl⟩ := rx
  obtain ⟨t', rfl⟩ := ry
  exact rule i j t t' s _ _ ⟨.bl (g i j), H, I, rfl, q⟩
noncomputable def CDiv (i j : Int) : Prop := 0 < j ∧ j < 1073741824
noncomputable def CPow (i j : Int) : Prop := 0 ≤ j ∧ j ≤ 1000000 ∧ i.natAbs < 2 ^ 64
noncomputable def CMul (i j : Int) : Prop := (-(2 ^ 64) < i ∧ i < 2 ^ 64) ∨ (-(2 ^ 64) < j ∧ j < 2 ^ 64)
theorem CMul.ok {i j : Int} (h : CMul i j) : IntMulOk i j := by
  rcases h with ⟨h1, h2⟩ | ⟨h1, h2⟩
  · exact .of_left (intBits_le_64 h1 h2)
  · exact .of_right (intBits_le_64 h1 h2)
theorem op_add : OpR X (binaryOp .Add) (rI0 fun i j => .int (i + j)) := opI0 fun _ _ _ _ _ _ _ q => add_int q
theorem op_sub : OpR X (binaryOp .Sub) (rI0 fun i j => .int (i - j)) := opI0 fun _ _ _ _ _ _ _ q => sub_int q
theorem op_mul : OpR X (binaryOp .Mult) (rI CMul fun i j => .int (i * j)) := opI fun _ _ _ _ _ _ _ hc q => mul_int q hc.ok
theorem op_fdiv : OpR X (binaryOp .FloorDiv) (rI CDiv fun i j => .int (i / j)) := opI fun i j _ _ _ _ _ hc q => by
  have h1 : (0 : Int) < j := hc.1
  have h2 : j < 1073741824 := hc.2
  exact floordiv_int (by omega) (by rw [Int.fdiv_eq_ediv_of_nonneg i (by omega)]; exact q) (.inl (PyProof.noPylong_small (by omega)))
theorem op_mod : OpR X (binaryOp .Mod) (rI (fun _ j => 0 < j) fun i j => .int (i % j)) := opI fun i j _ _ _ _ _ hc q => by
  have h1 : (0 : Int) < j := hc
  exact mod_int' (by omega) (by rw [Int.fmod_eq_emod_of_nonneg i (by omega)]; exact q)
theorem op_pow : OpR X (binaryOp .Pow) (rI CPow fun i j => .int (i ^ j.toNat)) := opI fun _ _ _ _ _ _ _ hc q => pow_int_small hc.1 hc.2.1 hc.2.2 q
theorem unI {f : Value → Sem Value} {g : Int → Int}
    (rule : ∀ (i : Int) (t : Tok) (s : Shared) (Q : Value → Shared → Prop) (E : Value → Shared → Prop), Q (.int (g i) s.toks) { s with toks := s.toks + 1 } → wpAny (model X.prog X.w) X.A (f (.int i t)) Q E s) :
    UnR X f (rU fun i => .int (g i)) := by
  intro pins s σ H x v Q I rx h
  obtain ⟨i, rfl, q⟩ := h
  obtain ⟨t, rfl⟩ := rx
  exact rule i t s _ _ ⟨.int (g i), H, I.tok _, ⟨_, rfl⟩, q⟩
theorem un_neg : UnR X (unaryOp .USub) (rU fun i => .int (-i)) := unI fun _ _ _ _ _ q => neg_int q
end
noncomputable def scal : V → V → Bool
  | .non, .non => true | .non, .int _ => true | .int _, .non => true | .non, .bl _ => true | .bl _, .non => true | .non, .str _ => true | .str _, .non => true
  | .int _, .int _ => true | .bl _, .bl _ => true | .str _, .str _ => true | .byt _, .byt _ => true
  | .int _, .str _ => true | .str _, .int _ => true | .bl _, .str _ => true | .str _, .bl _ => true
  | _, _ => false
noncomputable def rEq : R2 := fun x y H Q => scal x y = true ∧ Q (.bl (decide (x = y))) H
noncomputable def rNe : R2 := fun x y H Q => scal x y = true ∧ Q (.bl (!decide (x = y))) H
theorem dec_int {i j : Int} : decide (V.int i = V.int j) = (i == j) := by
  rw [Bool.eq_iff_iff]
  simp
theorem dec_bl {i j : Bool} : decide (V.bl i = V.bl j) = (i == j) := by
  rw [Bool.eq_iff_iff]
  simp
theorem dec_str {i j : Str} : decide (V.str i = V.str j) = (i == j) := by
  rw [Bool.eq_iff_iff]
  simp
theorem dec_byt {i j : Array UInt8} : decide (V.byt i = V.byt j) = (i.toList == j.toList) := by
  rw [Bool.eq_iff_iff]
  cases i
  cases j
  simp
section
variable {X : Cx} {a b c : Expr} {ta tb tc : TE} {pos : Pos}
theorem fin_bl {pins : List (Addr × Obj)} {σ : St} {H : Hp} {s : Shared} {Q : VK} {k k' : Bool} (I : Inv X pins σ H s) (q : Q (.bl k) H) (e : k = k') : EP X pins σ Q (.bool k') s := by
  subst e
  exact ⟨.bl k, H, I, rfl, q⟩
theorem op_eq : OpR X (compareOp .Eq) rEq := by
  intro pins s σ H x y v u Q I rx ry h
  obtain ⟨hs, q⟩ := h
  cases x with
  | non =>
    cases rx
    cases y with
    | non => cases ry; exact PySem.EqNone.eq_none_none (fin_bl I q (by simp))
    | bl j => cases ry; exact PySem.EqNone.eq_none_bool (fin_bl I q (by simp))
    | int j => obtain ⟨t', rfl⟩ := ry; exact PySem.EqNone.eq_none_int (fin_bl I q (by simp))
    | str j => obtain ⟨t', rfl⟩ := ry; exact PySem.EqNone.eq_none_str (fin_bl I q (by simp))
    | _ => exact absurd (show false = true from hs) Bool.false_ne_true
  | bl i =>
    cases rx
    cases y with
    | non => cases ry; exact PySem.EqNone.eq_bool_none (fin_bl I q (by simp))
    | bl j => cases ry; exact eq_bool (fin_bl I q dec_bl)
    | str j => obtain ⟨t', rfl⟩ := ry; exact PySem.EqMixed.eq_bool_str (fin_bl I q (by simp))
    | _ => exact absurd (show false = true from hs) Bool.false_ne_true
  | int i =>
    obtain ⟨t, rfl⟩ := rx
    cases y with
    | non => cases ry; exact PySem.EqNone.eq_int_none (fin_bl I q (by simp))
    | int j => obtain ⟨t', rfl⟩ := ry; exact eq_int (fin_bl I q dec_int)
    | str j => obtain ⟨t', rfl⟩ := ry; exact PySem.EqMixed.eq_int_str (fin_bl I q (by simp))
    | _ => exact absurd (show false = true from hs) Bool.false_ne_true
  | str i =>
    obtain ⟨t, rfl⟩ := rx
    cases y with
    | non => cases ry; exact PySem.EqNone.eq_str_none (fin_bl I q (by simp))
    | bl j => cases ry; exact PySem.EqMixed.eq_str_bool (fin_bl I q (by simp))
    | int j => obtain ⟨t', rfl⟩ := ry; exact PySem.EqMixed.eq_str_int (fin_bl I q (by simp))
    | str j => obtain ⟨t', rfl⟩ := ry; exact eq_str (fin_bl I q dec_str)
    | _ => exact absurd (show false = true from hs) Bool.false_ne_true
  | byt i =>
    obtain ⟨t, rfl⟩ := rx
    cases y with
    | byt j => obtain ⟨t', rfl⟩ := ry; exact PySem.W.eq_bytes (fin_bl I q dec_byt)
    | _ => exact absurd (show false = true from hs) Bool.false_ne_true
  | _ => cases y <;> exact absurd (show false = true from hs) Bool.false_ne_true
theorem op_ne : OpR X (compareOp .NotEq) rNe := by
  intro pins s σ H x y v u Q I rx ry h
  obtain ⟨hs, q⟩ := h
  cases x with
  | non =>
    cases rx
    cases y with
    | non => cases ry; exact PySem.EqNone.ne_none_none (fin_bl I q (by simp))
    | bl j => cases ry; exact PySem.EqNone.ne_none_bool (fin_bl I q (by simp))
    | int j => obtain ⟨t', rfl⟩ := ry; exact PySem.EqNone.ne_none_int (fin_bl I q (by simp))
    | str j => obtain ⟨t', rfl⟩ := ry; exact PySem.EqNone.ne_none_str (fin_bl I q (by simp))
    | _ => exact absurd (show false = true from hs) Bool.false_ne_true
  | bl i =>
    cases rx
    cases y with
    | non => cases ry; exact PySem.EqNone.ne_bool_none (fin_bl I q (by simp))
    | bl j => cases ry; exact ne_bool (fin_bl I q (congrArg not dec_bl))
    | str j => obtain ⟨t', rfl⟩ := ry; exact PySem.EqMixed.ne_bool_str (fin_bl I q (by simp))
    | _ => exact absurd (show false = true from hs) Bool.false_ne_true
  | int i =>
    obtain ⟨t, rfl⟩ := rx
    cases y with
    | non => cases ry; exact PySem.EqNone.ne_int_none (fin_bl I q (by simp))
    | int j => obtain ⟨t', rfl⟩ := ry; exact ne_int (fin_bl I q (congrArg not dec_int))
    | str j => obtain ⟨t', rfl⟩ := ry; exact PySem.EqMixed.ne_int_str (fin_bl I q (by simp))
    | _ => exact absurd (show false = true from hs) Bool.false_ne_true
  | str i =>
    obtain ⟨t, rfl⟩ := rx
    cases y with
    | non => cases ry; exact PySem.EqNone.ne_str_none (fin_bl I q (by simp))
    | bl j => cases ry; exact PySem.EqMixed.ne_str_bool (fin_bl I q (by simp))
    | int j => obtain ⟨t', rfl⟩ := ry; exact PySem.EqMixed.ne_str_int (fin_bl I q (by simp))
    | str j => obtain ⟨t', rfl⟩ := ry; exact ne_str (fin_bl I q (congrArg not dec_str))
    | _ => exact absurd (show false = true from hs) Bool.false_ne_true
  | byt i =>
    obtain ⟨t, rfl⟩ := rx
    cases y with
    | byt j => obtain ⟨t', rfl⟩ := ry; exact PySem.W.ne_bytes (fin_bl I q (congrArg not dec_byt))
    | _ => exact absurd (show false = true from hs) Bool.false_ne_true
  | _ => cases y <;> exact absurd (show false = true from hs) Bool.false_ne_true
theorem op_lt : OpR X (compareOp .Lt) (rI0 fun i j => .bl (decide (i < j))) := opB0 fun _ _ _ _ _ _ _ q => lt_int q
theorem op_le : OpR X (compareOp .LtE) (rI0 fun i j => .bl (decide (i ≤ j))) := opB0 fun _ _ _ _ _ _ _ q => le_int q
theorem op_gt : OpR X (compareOp .Gt) (rI0 fun i j => .bl (decide (j < i))) := opB0 fun _ _ _ _ _ _ _ q => gt_int q
theorem op_ge : OpR X (compareOp .GtE) (rI0 fun i j => .bl (decide (j ≤ i))) := opB0 fun _ _ _ _ _ _ _ q => ge_int q
theorem nomark (b : Expr) {op : CmpOp} (h : op ≠ .In := by decide) (h2 : op ≠ .NotIn := by decide) : behindInMarks op b = false := by
  have e1 : (op == CmpOp.In) = false := by cases op <;> first | rfl | exact absurd rfl h
  have e2 : (op == CmpOp.NotIn) = false := by cases op <;> first | rfl | exact absurd rfl h2
  cases b <;> simp [behindInMarks, e1, e2]
theorem pe_cmpR {op : CmpOp} {r : R2} (ho : OpR X (compareOp op) r) (ha : PE X a ta) (hb : PE X b tb) (hm : behindInMarks op b = false) : PE X (.Compare a [op] [b] pos) (tOp r ta tb) := by
  intro pins s σ H Q I h
  exact wpAny_Compare1 (binT ha hb I h fun v u s2 x y H2 I2 rx ry q => ho pins s2 σ H2 x y v u Q I2 rx ry q) hm
noncomputable def tTest (t : TE) : TT := fun σ H Q => t σ H fun x H' => ∃ k, x = .bl k ∧ Q k H'
theorem pt_cmpR {op : CmpOp} {r : R2} (ho : OpR X (compareOp op) r) (ha : PE X a ta) (hb : PE X b tb) (hm : behindInMarks op b = false) : PT X (.Compare a [op] [b] pos) (tTest (tOp r ta tb)) := by
  intro pins s σ H Q I h
  refine wpAny_isTrue_Compare1 (thn (ha pins s σ H _ I h) fun v s1 ⟨x, H1, I1, r1, q1⟩ => thn (hb pins s1 σ H1 _ I1 q1) fun u s2 ⟨y, H2, I2, r2, q2⟩ =>
    thn (ho pins s2 σ H2 x y v u _ I2 r1 r2 q2) fun c s3 ⟨z, H3, I3, r3, k, e, q3⟩ => ?_) hm
  subst e
  cases r3
  exact wpAny_truthy_bool ⟨H3, I3, q3⟩
noncomputable def tChain (r r' : R2) (ta tb tc : TE) : TE := fun σ H Q => ta σ H fun x H1 => tb σ H1 fun y H2 => r x y H2 fun z H3 => ∃ k, z = .bl k ∧
  (if k = true then tc σ H3 fun w' H4 => r' y w' H4 Q else Q (.bl false) H3)
theorem pe_chain {op op' : CmpOp} {r r' : R2} (ho : OpR X (compareOp op) r) (ho' : OpR X (compareOp op') r') (ha : PE X a ta) (hb : PE X b tb) (hc : PE X c tc)
    (hm : lastMarks [op, op'] [b, c] = false := by with_unfolding_all rfl) : PE X (.Compare a [op, op'] [b, c] pos) (tChain r r' ta tb tc) := by
  intro pins s σ H Q I h
  refine Compare_chain (thn (ha pins s σ H _ I h) fun v s1 ⟨x, H1, I1, r1, q1⟩ => chain_link (thn (hb pins s1 σ H1 _ I1 q1) fun u s2 ⟨y, H2, I2, r2, q2⟩ =>
    thn (ho pins s2 σ H2 x y v u _ I2 r1 r2 q2) fun d s3 ⟨z, H3, I3, r3, k, e, q3⟩ => ?_)) hm
  subst e
  cases r3
  refine wpAny_truthy_bool ?_
  cases k with
  | false => exact ite_ff ⟨.bl false, H3, I3, rfl, q3⟩
  | true => exact ite_tt (chain_last (thn (hc pins s3 σ H3 _ I3 q3) fun w' s4 ⟨z', H4, I4, r4, q4⟩ => ho' pins s4 σ H4 y z' u w' Q I4 r2 r4 q4))
theorem line63 : (sizeLine : Nat) < 2 ^ 63 := by rw [sizeLine_eq]; decide
theorem vals1 {x : V} {us : List Value} (r : Vals [x] us) : ∃ u, us = [u] ∧ RelV x u := by
  cases r with
  | cons r1 r2 => cases r2; exact ⟨_, rfl, r1⟩
theorem vals2 {x y : V} {us : List Value} (r : Vals [x, y] us) : ∃ u w', us = [u, w'] ∧ RelV x u ∧ RelV y w' := by
  cases r with
  | cons r1 r2 =>
    cases r2 with
    | cons r3 r4 => cases r4; exact ⟨_, _, rfl, r1, r3⟩
theorem call_abs : CallR X (.builtin "abs") (fun xs H Q => ∃ i, xs = [.int i] ∧ Q (.int (if i < 0 then -i else i)) H) := by
  intro pins s σ H xs us Q I r h
  obtain ⟨i, rfl, q⟩ := h
  obtain ⟨u, rfl, t, rfl⟩ := vals1 r
  exact call_abs_int fun u tk => ⟨.int (if i < 0 then -i else i), H, I.tok _, ⟨_, rfl⟩, q⟩
theorem call_min2 (hc : X.calm = true) : CallR X (.builtin "min") (fun xs H Q => ∃ i j, xs = [.int i, .int j] ∧ Q (.int (if j < i then j else i)) H) := by
  intro pins s σ H xs us Q I r h
  obtain ⟨i, j, rfl, q⟩ := h
  obtain ⟨u, w', rfl, ⟨t, rfl⟩, ⟨t', rfl⟩⟩ := vals2 r
  refine min_two_ints (I.ok.hd hc) fun h' tk k => ⟨_, H, I.kept k, ?_, q⟩
  by_cases hj : j < i
  · rw [if_pos hj, if_pos hj]; exact ⟨_, rfl⟩
  · rw [if_neg hj, if_neg hj]; exact ⟨_, rfl⟩
theorem call_int1 : CallR X (.type "int") (fun xs H Q => (∃ i, xs = [.int i] ∧ Q (.int i) H) ∨ ∃ k, xs = [.bl k] ∧ Q (.int (if k then 1 else 0)) H) := by
  intro pins s σ H xs us Q I r h
  rcases h with ⟨i, rfl, q⟩ | ⟨k, rfl, q⟩
  · obtain ⟨u, rfl, t, rfl⟩ := vals1 r
    exact call_int_int ⟨.int i, H, I, ⟨_, rfl⟩, q⟩
  · obtain ⟨u, rfl, r1⟩ := vals1 r
    cases r1
    exact call_int_bool ⟨.int (if k then 1 else 0), H, I.tok _, ⟨_, rfl⟩, q⟩
end
end L2
namespace L2
open PySem PySem.Spec PyProof.Rows
structure ObjM (h : Heap) (x dx C : Addr) (mA : Str → Option Value) : Prop where
  obj : h.get? x = some (PySem.W.instObj C dx)
  ns : h.Ns1 dx mA
  ne : dx ≠ x
theorem lookIn_ns {h : Heap} {dx : Addr} {mA : Str → Option Value} (n : h.Ns1 dx mA) : ∃ od, h.get? dx = some od ∧ ∀ name, PySem.W.lookIn name od = some (mA name) := by
  obtain ⟨o, es, ep, ho, hd, hk, _, hm⟩ := n
  refine ⟨o, ho, fun name => ?_⟩
  have e := hm name
  unfold nsFind findBy at e
  rw [← Array.find?_toList] at e
  unfold PySem.W.lookIn
  rw [hd]
  dsimp only
  split
  · rename_i y q
    rw [q] at e
    exact congrArg some e
  · rename_i q
    rw [q] at e
    have a : es.toList.any (·.refKey) = false := by
      rw [List.any_eq_false]
      intro y hy
      obtain ⟨z, t, hkey⟩ := hk y (Array.mem_toList_iff.mp hy)
      simp [DictEntry.refKey, hkey]
    have a' : ¬ es.toList.any (·.refKey) = true := by rw [a]; exact Bool.false_ne_true
    rw [if_neg a']
    exact congrArg some e
theorem ObjM.look {h : Heap} {x dx C : Addr} {mA : Str → Option Value} (I : ObjM h x dx C mA) : ∃ od, PySem.W.InstAt h x (PySem.W.instObj C dx) C (some od) ∧ ∀ name, PySem.W.lookIn name od = some (mA name) :=
  let ⟨od, ho, hl⟩ := lookIn_ns I.ns
  ⟨od, ⟨I.obj, rfl, rfl, ho⟩, hl⟩
section
variable {prog : Program} {w : World} {A : Around} {E : Value → Shared → Prop} {s : Shared} {K : PySem.W.Frag} {x dx C f : Addr} {mA : Str → Option Value} {name : Str} {v : Value}
end
theorem RelO.some_of {v : V} {o : Option Value} (r : RelO (some v) o) : ∃ u, o = some u ∧ RelV v u := by
  cases o with
  | none => exact (show False from r).elim
  | some u => exact ⟨u, rfl, r⟩
section
variable {P : Program} {w : World} {H H' : Hp} {h h' : Heap} {a C dx : Addr} {fs fs' : List (Str × V)}
theorem ins_get (hok : HOk P w H h) (e : H a = some (.ins C dx fs)) : ∃ mA, ObjM h a dx C mA ∧ (∀ f, RelO (fs.lookup f) (mA f)) ∧ PySem.Within mA (fs.map (·.1)) ∧ fs.length ≤ 1000 ∧ H dx = some (.own a) := by
  obtain ⟨d, z, ne, ob, mA, n, r, q⟩ := (show ObjOk P w H h a (.ins C dx fs) from hok a _ e)
  exact ⟨mA, ⟨ob, n, ne⟩, r, q, z, d⟩
end
structure Cls (K : PySem.W.Frag) (C : Addr) : Prop where
  pg : PySem.W.plainGet K C Str.empty = true
  hd : PySem.W.hasDictIn K C = true
  po : PySem.W.plainOver K C = true
  sa : PySem.W.findIn K (.ref C) "__setattr__" = some (some (.builtin "object.__setattr__"))
theorem Cls.get {K : PySem.W.Frag} {C : Addr} (c : Cls K C) (f : Str) : PySem.W.plainGet K C f = true := c.pg
section
variable {X : Cx} {pins : List (Addr × Obj)} {σ : St} {H : Hp} {s : Shared} {a C dx : Addr} {fs : List (Str × V)} {f : Str} {v : V} {A : Around} {E : Value → Shared → Prop}
end
section
variable {X : Cx} {o e value : Expr} {f : Str} {pos pos' tpos : Pos} {ta tv : TE}
end
section
variable {X : Cx} {pins : List (Addr × Obj)} {σ : St} {H : Hp} {s : Shared} {A : Around} {E : Value → Shared → Prop} {Q : Value → Shared → Prop} {c : Value} {b : Bool}
inductive TyOf (K : PySem.W.Frag) (H : Hp) : V → Value → Prop where
  | non : TyOf K H .non (.type "NoneType")
  | bl (x : Bool) : TyOf K H (.bl x) (.type "bool")
  | int (i : Int) : TyOf K H (.int i) (.type "int")
  | str (x : Str) : TyOf K H (.str x) (.type "str")
  | flt (x : UInt64) : TyOf K H (.flt x) (.type "float")
  | lst {a : Addr} {xs : List V} (e : H a = some (.lst xs)) : TyOf K H (.ref a) (.type "list")
  | frz {a : Addr} {o : Obj} {xs : List V} (e : H a = some (.frz o (.lst xs))) : TyOf K H (.ref a) (.type "list")
  | tup {a : Addr} {xs : List V} (e : H a = some (.tup xs)) : TyOf K H (.ref a) (.type "tuple")
  | dK {a : Addr} {kvs : List (Key × V)} (e : H a = some (.dK kvs)) : TyOf K H (.ref a) (.type "dict")
  | dT {a : Addr} {kvs : List (List Key × V)} (e : H a = some (.dT kvs)) : TyOf K H (.ref a) (.type "dict")
  | ins {a C dx : Addr} {fs : List (Str × V)} (e : H a = some (.ins C dx fs)) (cl : Cls K C) (ha : PySem.W.findIn K (.ref C) "__class__" = some (some (.builtin "object.__class__")))
      (hn : PySem.W.specialIn K (.builtin "object.__class__") "__get__" = some (some (.builtin "getset_descriptor.__get__"))) (htk : PySem.W.takesIn K (.builtin "object.__class__") = some true)
      (hm : PySem.W.mroIn K C (.type "object") = some true) : TyOf K H (.ref a) (.ref C)
theorem isinst_ok {x : V} {u t : Value} (I : Inv X pins σ H s) (rx : RelV x u) (ty : TyOf X.K H x t) (e : PySem.W.kitOne X.K t c = some b) (h : ∀ tk, Q (.bool b) { s with toks := tk }) :
    wpAny (model X.prog X.w) A (call (.builtin "isinstance") [u, c]) Q E s := by
  cases ty with
  | non => cases (show u = Value.none from rx); exact PySem.W.kia_one PySem.W.kitx_none I.kIn True.intro e (fun z => nomatch z) h
  | bl y => cases (show u = Value.bool y from rx); exact PySem.W.kia_one PySem.W.kitx_bool I.kIn True.intro e (fun z => nomatch z) h
  | int i => obtain ⟨t, q⟩ := (show ∃ t, u = Value.int i t from rx); cases q; exact PySem.W.kia_one PySem.W.kitx_int I.kIn True.intro e (fun z => nomatch z) h
  | str y => obtain ⟨t, q⟩ := (show ∃ t, u = Value.str y t from rx); cases q; exact PySem.W.kia_one PySem.W.kitx_str I.kIn True.intro e (fun z => nomatch z) h
  | flt y => obtain ⟨t, q⟩ := (show ∃ t, u = Value.float y t from rx); cases q; exact PySem.W.kia_one PySem.W.kitx_float I.kIn True.intro e (fun z => nomatch z) h
  | @lst a xs ea =>
    cases (show u = Value.ref a from rx)
    obtain ⟨_, _, n, _, h1⟩ := (show ObjOk X.prog X.w H s.heap a (.lst xs) from I.hok a _ ea)
    exact PySem.W.kia_one PySem.W.kitx_list I.kIn ⟨_, h1, rfl⟩ e (fun z => nomatch z) h
  | @frz a ob xs ea =>
    cases (show u = Value.ref a from rx)
    obtain ⟨_, _, _, n, _, h1⟩ := (show ObjOk X.prog X.w H s.heap a (.frz ob (.lst xs)) from I.hok a _ ea)
    exact PySem.W.kia_one PySem.W.kitx_list I.kIn ⟨_, h1, rfl⟩ e (fun z => nomatch z) h
  | @tup a xs ea =>
    cases (show u = Value.ref a from rx)
    obtain ⟨_, _, _, p⟩ := (show ObjOk X.prog X.w H s.heap a (.tup xs) from I.hok a _ ea)
    obtain ⟨o, h1, h2, _⟩ := p
    exact PySem.W.kia_one PySem.W.kitx_tuple I.kIn ⟨o, h1, h2⟩ e (fun z => nomatch z) h
  | @dK a kvs ea =>
    cases (show u = Value.ref a from rx)
    obtain ⟨_, _, vs, _, p⟩ := (show ObjOk X.prog X.w H s.heap a (.dK kvs) from I.hok a _ ea)
    obtain ⟨o, es, ep, h1, h2, _⟩ := p
    exact PySem.W.kia_one PySem.W.kitx_dict I.kIn ⟨o, h1, h2.1⟩ e (fun z => nomatch z) h
  | @dT a kvs ea =>
    cases (show u = Value.ref a from rx)
    obtain ⟨_, _, xs, _, o, es, ep, h1, h2, _⟩ := (show ObjOk X.prog X.w H s.heap a (.dT kvs) from I.hok a _ ea)
    exact PySem.W.kia_one PySem.W.kitx_dict I.kIn ⟨o, h1, h2.1⟩ e (fun z => nomatch z) h
  | @ins a C dx fs ea cl ha hn htk hm =>
    cases (show u = Value.ref a from rx)
    obtain ⟨mA, O, _⟩ := ins_get I.hok ea
    obtain ⟨od, J, _⟩ := O.look
    exact PySem.W.kia_one (PySem.W.kitx_own (cl.get _) cl.hd ha hn htk hm) I.kIn J e (fun z => nomatch z) h
end
end L2
namespace L2
open PySem PySem.Spec PyProof.Rows
structure Room (k : Nat) (A : Around) : Prop where
  hd : A.handled = none
  dp : A.depth + 3 * k + 5 < recursionLimit
  un : A.units + 16 * k + 200 < cLine
theorem Room.mono {j k : Nat} {A : Around} (r : Room k A) (h : j ≤ k) : Room j A := ⟨r.hd, by have := r.dp; omega, by have := r.un; omega⟩
theorem Room.deeper {k : Nat} {A : Around} (r : Room (k + 1) A) (env : Env) : Room k (A.deeper env) :=
  ⟨r.hd, by have := r.dp; show A.depth + 1 + 3 * k + 5 < _; omega, by have := r.un; show A.units + 3 + 16 * k + 200 < _; omega⟩
theorem Room.depth {k : Nat} {A : Around} (r : Room k A) : A.depth < recursionLimit := by have := r.dp; omega
theorem Room.units {k : Nat} {A : Around} (r : Room k A) : A.units + 64 < cLine := by have := r.un; omega
noncomputable def tNil : TA := fun _ H Q => Q [] H
noncomputable def tCons (ta : TE) (tr : TA) : TA := fun σ H Q => ta σ H fun x H1 => tr σ H1 fun xs H2 => Q (x :: xs) H2
section
variable {X : Cx} {e : Expr} {es : List Expr} {te : TE} {t : TA} {pos : Pos}
theorem pa_nil : PA X [] tNil := fun _ _ _ _ H Q I h => Calls.spliced_nil ⟨[], H, I, .nil, h⟩
theorem pa_cons (ha : PE X e te) (hr : PA X es t) (hs : starEach (e :: es) X.env = (false, eval e X.env) :: starEach es X.env := by rfl) : PA X (e :: es) (tCons te t) := by
  intro pos pins s σ H Q I h
  rw [hs]
  show wpAny _ _ (spliced ((false, eval e X.env) :: backTo pos (starEach es X.env))) _ _ s
  refine Calls.spliced_cons (thn (ha pins s σ H _ I h) fun u s1 ⟨x, H1, I1, r1, q1⟩ => ?_)
  exact thn (hr pos pins s1 σ H1 _ I1 q1) fun us s2 ⟨xs, H2, I2, r2, q2⟩ => ⟨x :: xs, H2, I2, .cons r1 r2, q2⟩
noncomputable def tTup (t : TA) : TE := fun σ H Q => t σ H fun xs H1 => xs.length ≤ sizeLine ∧ ∀ p, H1 p = none → Q (.ref p) (upd H1 p (.tup xs))
noncomputable def tLst (t : TA) : TE := fun σ H Q => t σ H fun xs H1 => xs.length ≤ sizeLine ∧ ∀ p, H1 p = none → Q (.ref p) (upd H1 p (.lst xs))
theorem pe_tup {x1} (h : PA X es t) : PE X (.Tuple es x1 pos) (tTup t) := by
  intro pins s σ H Q I hq
  refine wpAny_Tuple_spliced (thn (h pos pins s σ H _ I hq) fun us s1 ⟨xs, H1, I1, r, z, q⟩ => ⟨by rw [← r.length]; exact z, ?_⟩)
  have hf : H1 s1.heap.objs.size = none := I1.hok.fresh (Nat.le_refl _)
  refine ⟨.ref s1.heap.objs.size, upd H1 s1.heap.objs.size (.tup xs), I1.laid (t' := s1.toks) (fun b u e => Heap.get?_push_of_some _ e) (Nat.le_refl _) ?_, rfl, q _ hf⟩
  exact ⟨z, us, r, ⟨_, Heap.get?_push_size _ rfl, rfl, _, rfl⟩⟩
theorem pe_lst (h : PA X es t) : PE X (.List es pos) (tLst t) := by
  intro pins s σ H Q I hq
  refine wpAny_List_spliced (thn (h pos pins s σ H _ I hq) fun us s1 ⟨xs, H1, I1, r, z, q⟩ => ⟨by rw [← r.length]; exact z, ?_⟩)
  have hf : H1 s1.heap.objs.size = none := I1.hok.fresh (Nat.le_refl _)
  refine ⟨.ref s1.heap.objs.size, upd H1 s1.heap.objs.size (.lst xs), I1.laid (t' := s1.toks) (fun b u e => Heap.get?_push_of_some _ e) (Nat.le_refl _) ?_, rfl, q _ hf⟩
  exact ⟨z, us, 0, r, Heap.get?_push_size _ rfl⟩
end
noncomputable abbrev Sp := List V → Hp → VK → XK → Prop
noncomputable abbrev CXT := List Env → Hp → Shared → XK → Value → Shared → Prop
structure Env0 (P : Program) (w : World) (K : PySem.W.Frag) (mg : Str → Option Value) (base : Heap) (A : Around) (outer : List Env) (s : Shared) (H : Hp) : Prop where
  frames : A.frames = some outer
  mod : Mod K mg base
  bs : ∀ b o, base.get? b = some o → s.heap.get? b = some o ∧ H b = none
  bsz : base.objs.size ≤ s.heap.objs.size
  funs : s.heap.FunFrames base outer
  frf : ∀ b ∈ frs outer, H b = none
  hok : HOk P w H s.heap
  bare : AllBare s.gens
noncomputable def CE (outer : List Env) (P : Program) (w : World) (H : Hp) (s : Shared) (Q : VK) (u : Value) (s' : Shared) : Prop :=
  ∃ v H', s'.os = s.os ∧ AllBare s'.gens ∧ Un (frs outer) [] H H' s.heap s'.heap ∧ HOk P w H' s'.heap ∧ RelV v u ∧ Q v H'
noncomputable def CR (CX : CXT) (outer : List Env) (P : Program) (w : World) (H : Hp) (s : Shared) (Q : VK) (E : XK) (r : Result) (s' : Shared) : Prop :=
  match r with
  | .ok (.ret u) => CE outer P w H s Q u s'
  | .ok _ => False
  | .error e => CX outer H s E e s'
structure FnOk (P : Program) (w : World) (K : PySem.W.Frag) (mg : Str → Option Value) (base : Heap) (CX : CXT) (k : Nat) (f : Addr) (fd : FuncData) (ps : List Str) (sp : Sp) : Prop where
  len : ∀ vs H Q E, sp vs H Q E → vs.length = ps.length
  run : ∀ (A : Around) (outer : List Env) (s : Shared) (H : Hp) (args : Args) (us : List Value) (vs : List V) (Q : VK) (E : XK), Room k A → Env0 P w K mg base A outer s H → BindsTo s fd args (ps.zip us) → Vals vs us → sp vs H Q E →
    codeAny (model P w) A (.call (.ref f) args) (CR CX outer P w H s Q E) s
section
variable {X : Cx} {pins : List (Addr × Obj)} {σ : St} {H : Hp} {s s' : Shared}
theorem Inv.env0 (I : Inv X pins σ H s) : Env0 X.prog X.w X.K X.mg X.base X.A X.stack s H :=
  ⟨I.ok.frames, I.ok.mod, I.bs, Nat.le_trans I.ok.bsz I.sz, I.stack, I.stkFree, I.hok, I.bare⟩
theorem Inv.after {Q : VK} {u : Value} (I : Inv X pins σ H s) (h : CE X.stack X.prog X.w H s Q u s') : EP X pins σ Q u s' := by
  obtain ⟨v, H', os, bare, un, hok, r, q⟩ := h
  obtain ⟨hh, g, d, t, os'⟩ := s'
  obtain rfl : os' = s.os := os
  exact ⟨v, H', I.call (h' := hh) (g' := g) (d' := d) (t' := t) (ch := []) un hok bare (fun b z => absurd z (by simp)), r, q⟩
end
noncomputable def tCall (sp : Sp) (dvs : List V) (E : XK) (t : TA) : TE := fun σ H Q => t σ H fun vs H1 => sp (vs ++ dvs) H1 Q E
noncomputable def Binds (K : PySem.W.Frag) (fd : FuncData) (ps : List Str) (ds : List Value) : Prop :=
  ∀ (s : Shared) (us : List Value), K.In s.heap → (us ++ ds).length = ps.length → BindsTo s fd ⟨us, []⟩ (ps.zip (us ++ ds))
theorem Binds.all {K : PySem.W.Frag} {fd : FuncData} {ps : List Str} (h : ∀ us : List Value, us.length = ps.length → bindArgs fd ⟨us, []⟩ = pure (ps.zip us)) : Binds K fd ps [] := fun s us _ hl => by
  rw [List.append_nil] at hl ⊢
  exact .of_eq (h us hl)
noncomputable def Passes (CX : CXT) (X : Cx) (E : XK) : Prop := ∀ (pins : List (Addr × Obj)) (σ : St) (H : Hp) (s : Shared) (e : Value) (s' : Shared), Inv X pins σ H s → CX X.stack H s E e s' → X.xe e s'
section
variable {X : Cx} {CX : CXT} {k : Nat} {f C : Addr} {fd : FuncData} {ps : List Str} {sp : Sp} {dvs : List V} {ds : List Value} {E : XK} {x m : Str} {p pos apos : Pos} {e o : Expr} {es : List Expr} {ta : TE} {t : TA}
theorem run_fn {pins : List (Addr × Obj)} {σ : St} {H : Hp} {s : Shared} {Q : VK} {us : List Value} {vs : List V} (F : FnOk X.prog X.w X.K X.mg X.base CX k f fd ps sp) (hr : Room k X.A) (hb : Binds X.K fd ps ds) (hd : Vals dvs ds) (hx : Passes CX X E)
    (I : Inv X pins σ H s) (r : Vals vs us) (h : sp (vs ++ dvs) H Q E) : wpAny (model X.prog X.w) X.A (call (.ref f) us) (EP X pins σ Q) X.xe s := by
  have r2 : Vals (vs ++ dvs) (us ++ ds) := r.append hd
  have hl : (us ++ ds).length = ps.length := by rw [← r2.length]; exact F.len _ _ _ _ h
  refine wpAny_call (codeAny_mono (F.run X.A X.stack s H ⟨us, []⟩ (us ++ ds) (vs ++ dvs) Q E hr I.env0 (hb s us I.kIn hl) r2 h) fun r s' hq => ?_)
  cases r with
  | error e => exact hx pins σ H s e s' I hq
  | ok fl =>
    cases fl with
    | ret u => exact I.after hq
    | next => exact False.elim hq
    | brk => exact False.elim hq
    | cont => exact False.elim hq
theorem pe_call (F : FnOk X.prog X.w X.K X.mg X.base CX k f fd ps sp) (hr : Room k X.A) (hg : Gl X x) (hm : X.mg x = some (.ref f)) (hk : PySem.W.keepIn X.K (.ref f) = true) (hb : Binds X.K fd ps ds) (hd : Vals dvs ds) (hx : Passes CX X E)
    (ha : PA X (e :: es) t) (hdb : (x == ("__debug__" : Str)) = false := by decide) (he : starEach (e :: es) X.env = (false, eval e X.env) :: starEach es X.env := by rfl) (hpl : (backTo pos (starEach es X.env)).any (·.1) = false := by rfl) :
    PE X (.Call (.Name x p) (e :: es) [] pos) (tCall sp dvs E t) := by
  intro pins s σ H Q I h
  refine wpAny_Call_Name_kw (ld_glob I hg hm ?_ hdb)
  refine PySem.W.callWith_K (h₀ := X.base) I.ok.mod.kin hk (thn (ha pos pins s σ H _ I h) fun us s1 ⟨vs, H1, I1, r, q⟩ => ⟨I1.kIn, ?_⟩) he hpl
  exact run_fn F hr hb hd hx I1 r q
end
section
variable {X : Cx} {CX : CXT} {k : Nat} {f C : Addr} {fd : FuncData} {ps ks : List Str} {sp : Sp} {E : XK} {x m : Str} {p pos apos kpos : Pos} {e o : Expr} {es : List Expr} {kws : List Keyword} {te ta : TE} {t tk : TA} {nm : Option Str}
variable {g : List Value → List Value → List Value} {gV : List V → List V → List V}
end
structure FnScope (N P : List Str) (sc : Scope) : Prop where
  kind : sc.kind = .function
  co : sc.isCoroutine = false
  gen : sc.isGenerator = false
  nd : N.Nodup
  pre : N.take P.length = P
  par : ∀ x ∈ P, sc.names.lookup x = some .local ∨ sc.names.lookup x = some .cell
  nofree : ∀ y ∈ sc.names, y.2 ≠ .free
theorem bindL_out {kindOf : Str → Option NameKind} {x : Str} : ∀ {binds : List (Str × Value)} {m : Str → Option Value}, (∀ v, (x, v) ∉ binds) → bindL kindOf binds m x = m x
  | [], _, _ => rfl
  | (n, v) :: r, m, h => by
    unfold bindL
    rw [bindL_out fun w hw => h w (List.mem_cons_of_mem _ hw)]
    split
    · have : x ≠ n := by rintro rfl; exact h v List.mem_cons_self
      simp [this]
    · rfl
theorem bindC_out {kindOf : Str → Option NameKind} {x : Str} : ∀ {binds : List (Str × Value)} {m : Str → Option Value}, (∀ v, (x, v) ∉ binds) → bindC kindOf binds m x = m x
  | [], _, _ => rfl
  | (n, v) :: r, m, h => by
    unfold bindC
    rw [bindC_out fun w hw => h w (List.mem_cons_of_mem _ hw)]
    split
    · rfl
    · have : x ≠ n := by rintro rfl; exact h v List.mem_cons_self
      simp [this]
theorem bindL_get {kindOf : Str → Option NameKind} {x : Str} {v : Value} : ∀ {P : List Str} {vs : List Value} {i : Nat} {m : Str → Option Value}, P.Nodup → P[i]? = some x → vs[i]? = some v → kindOf x = some .local →
    bindL kindOf (P.zip vs) m x = some v
  | [], _, _, _, _, h, _, _ => by simp at h
  | _ :: _, [], _, _, _, _, h, _ => by simp at h
  | p :: P, w :: vs, 0, m, nd, h1, h2, hk => by
    simp at h1 h2; subst h1; subst h2
    show bindL kindOf ((p, w) :: P.zip vs) m p = _
    unfold bindL
    rw [bindL_out fun v hv => (List.nodup_cons.mp nd).1 (List.of_mem_zip hv).1, if_pos hk]
    simp
  | p :: P, w :: vs, i + 1, m, nd, h1, h2, hk => by
    show bindL kindOf ((p, w) :: P.zip vs) m x = _
    unfold bindL
    exact bindL_get (i := i) (List.nodup_cons.mp nd).2 (by simpa using h1) (by simpa using h2) hk
theorem bindC_get {kindOf : Str → Option NameKind} {x : Str} {v : Value} : ∀ {P : List Str} {vs : List Value} {i : Nat} {m : Str → Option Value}, P.Nodup → P[i]? = some x → vs[i]? = some v → kindOf x ≠ some .local →
    bindC kindOf (P.zip vs) m x = some v
  | [], _, _, _, _, h, _, _ => by simp at h
  | _ :: _, [], _, _, _, _, h, _ => by simp at h
  | p :: P, w :: vs, 0, m, nd, h1, h2, hk => by
    simp at h1 h2; subst h1; subst h2
    show bindC kindOf ((p, w) :: P.zip vs) m p = _
    unfold bindC
    rw [bindC_out fun v hv => (List.nodup_cons.mp nd).1 (List.of_mem_zip hv).1, if_neg hk]
    simp
  | p :: P, w :: vs, i + 1, m, nd, h1, h2, hk => by
    show bindC kindOf ((p, w) :: P.zip vs) m x = _
    unfold bindC
    exact bindC_get (i := i) (List.nodup_cons.mp nd).2 (by simpa using h1) (by simpa using h2) hk
noncomputable def start (N : List Str) (vs : List V) : St := vs.map some ++ List.replicate (N.length - vs.length) none
noncomputable def cxOf (CX : CXT) (P : Program) (w : World) (K : PySem.W.Frag) (mg : Str → Option Value) (base : Heap) (N : List Str) (qual : Str) (scope : Scope) (f : Addr) (cd : Value) (A : Around) (outer : List Env) (s : Shared) (H : Hp) (E : XK) : Cx where
  prog := P
  w := w
  K := K
  mg := mg
  base := base
  A := A.deeper (envOfC qual scope s.heap.objs.size f cd)
  N := N
  s₀ := s
  H₀ := H
  env := envOfC qual scope s.heap.objs.size f cd
  outer := outer
  stack := envOfC qual scope s.heap.objs.size f cd :: outer
  ex := []
  calm := true
  fn := fun _ => true
  pn := []
  xe := fun e s' => wpAny (model P w) (A.deeper (envOfC qual scope s.heap.objs.size f cd)) (leaving (envOfC qual scope s.heap.objs.size f cd) e) (fun _ s'' => CX outer H s E e s'') (fun e' s'' => CX outer H s E e' s'') s'
theorem cell_has {sc : Scope} {n : Nat} {x : Str} (h : sc.names.lookup x = some .cell) : ∃ c, (cellsFrom n sc.names []).lookup x = some c := by
  have q := PySem.W.cellsFrom_some sc.names n [] (.inl h)
  exact Option.isSome_iff_exists.mp q
theorem inv_start {CX : CXT} {P : Program} {w : World} {K : PySem.W.Frag} {mg : Str → Option Value} {base : Heap} {N ps : List Str} {qual : Str} {scope : Scope} {f : Addr} {cd : Value} {A : Around} {outer : List Env} {s s1 : Shared} {H : Hp} {E : XK} {us : List Value} {vs : List V}
    (S : FnScope N ps scope) (hd : A.handled = none) (e0 : Env0 P w K mg base A outer s H) (hl : vs.length = ps.length) (r : Vals vs us)
    (x : InCallC s s.heap.objs.size (bindL (envOfC qual scope s.heap.objs.size f cd).kindOf (ps.zip us) fun _ => none) (cellsFrom (s.heap.objs.size + 1) scope.names []) (bindC (envOfC qual scope s.heap.objs.size f cd).kindOf (ps.zip us) fun _ => none) s1) :
    Inv (cxOf CX P w K mg base N qual scope f cd A outer s H E) [] (start N vs) H s1 := by
  have hpl : ps.length ≤ N.length := by have := congrArg List.length S.pre; rw [List.length_take] at this; omega
  obtain ⟨h1, tk, rfl, hk⟩ := x.done
  have noA : ∀ b : Addr, b ∉ (cxOf CX P w K mg base N qual scope f cd A outer s H E).ex := fun b z => absurd (show b ∈ ([] : List Addr) from z) (by simp)
  refine ⟨⟨e0.mod, S.kind, rfl, rfl, Nat.le_refl _, fun y z c h1 h2 => ?_, fun y hy => ?_, fun y c _ h => ?_, fun _ => hd, Around.frames_deeper e0.frames, .inr ⟨rfl, rfl⟩, fun b z => absurd z (noA b), e0.bs, e0.bsz, fun b _ _ => noA b, fun b z => absurd z (noA b), e0.funs, e0.frf⟩,
    rfl, e0.bare, Un.kept hk, ⟨_, x.toInCall.ns, fun i y v h1 h2 h3 => ?_⟩, fun y c h => ⟨_, x.cell y c h⟩, e0.hok.fresh (Nat.le_refl _), fun y c h => ?_, fun p hp => absurd (show p ∈ ([] : List (Addr × Obj)) from hp) (by simp), e0.hok.kept hk, ?_⟩
  · exact name_of_addr x.apart (PySem.mem_of_lookup h1) (PySem.mem_of_lookup h2)
  · have hy : scope.names.lookup y = some .cell ∨ scope.names.lookup y = some .free := hy
    rcases hy with hy | hy
    · exact cell_has hy
    · exact absurd rfl (S.nofree _ (PySem.mem_of_lookup hy))
  · exact Nat.le_of_lt (x.above y c (PySem.mem_of_lookup h))
  · have hi : i < vs.length := by
      unfold start at h2
      by_cases hi : i < vs.length
      · exact hi
      · rw [List.getElem?_append_right (by simpa using hi)] at h2
        rw [List.getElem?_replicate] at h2
        split at h2 <;> cases h2
    have ha : vs[i]? = some v := by
      unfold start at h2
      rw [List.getElem?_append_left (by simpa using hi), List.getElem?_map] at h2
      cases e : vs[i]? with
      | none => rw [e] at h2; cases h2
      | some a => rw [e] at h2; cases h2; rfl
    obtain ⟨u, hu, rv⟩ := r.get ha
    have hp : ps[i]? = some y := by
      rw [← S.pre, List.getElem?_take_of_lt (by omega)]; exact h1
    have ndP : ps.Nodup := by rw [← S.pre]; exact S.nd.sublist (List.take_sublist _ _)
    refine ⟨u, rv, ?_⟩
    rcases S.par y (List.mem_of_getElem? hp) with k | k
    · exact .inl ⟨k, bindL_get ndP hp hu k⟩
    · obtain ⟨c, e⟩ := cell_has (n := s.heap.objs.size + 1) k
      refine .inr ⟨.inl k, c, e, ?_⟩
      have q := x.cell y c e
      rw [bindC_get ndP hp hu (by show scope.names.lookup y ≠ _; rw [k]; decide)] at q
      exact q
  · exact e0.hok.fresh (Nat.le_of_lt (x.above y c (PySem.mem_of_lookup h)))
  · unfold start
    show _ = N.length
    rw [List.length_append, List.length_map, List.length_replicate]
    omega
theorem fn_of {CX : CXT} {P : Program} {w : World} {K : PySem.W.Frag} {mg : Str → Option Value} {base : Heap} {k : Nat} {f : Addr} {name qual : Str} {params : Arguments} {body : List Stmt} {scope : Scope} {dV kV doc pm cdv ct oc : Value} {an od : Option Addr}
    {osl : Array (Option Value)} {N ps : List Str} {sp : Sp} (lk : K.lookup f = some ⟨oc, od, .func (PySem.W.fnOf name qual params body scope dV kV doc pm an cdv ct), osl⟩) (hcd : PySem.W.codeIn K cdv qual = true) (S : FnScope N ps scope)
    (len : ∀ vs H Q E, sp vs H Q E → vs.length = ps.length)
    (hbody : ∀ (A : Around) (outer : List Env) (s : Shared) (H : Hp) (vs : List V) (Q : VK) (E : XK), Room k (A.deeper (envOfC qual scope s.heap.objs.size f cdv)) → sp vs H Q E →
      ∃ t, PSs (cxOf CX P w K mg base N qual scope f cdv A outer s H E) body t ∧ t { nx := fun _ H' => Q .non H', rt := Q } (start N vs) H) :
    FnOk P w K mg base CX (k + 1) f (PySem.W.fnOf name qual params body scope dV kV doc pm an cdv ct) ps sp := by
  refine ⟨len, fun A outer s H args us vs Q E hr e0 hb r hsp => ?_⟩
  have hl := len _ _ _ _ hsp
  have KX : K.In s.heap := e0.mod.kin.keeps fun b o e => (e0.bs b o e).1
  have lim : s.heap.NoLimit := e0.mod.nolimit.keeps fun b o e => (e0.bs b o e).1
  have hkind : ∀ y ∈ ps.zip us, scope.names.lookup y.1 = some .local ∨ (scope.names.lookup y.1 = some .cell ∧ ((cellsFrom (s.heap.objs.size + 1) scope.names []).lookup y.1).isSome = true) := fun ⟨n, v⟩ hy => by
    rcases S.par n (List.of_mem_zip hy).1 with q | q
    · exact .inl q
    · exact .inr ⟨q, PySem.W.cellsFrom_some _ _ _ (.inl q)⟩
  refine codeAny_call_function hr.depth (KX _ _ lk) rfl S.co S.gen rfl (PySem.W.codeRec_of KX hcd) (hb _ _ _ _ ?_)
  refine wpAny_newFunctionEnv_cells S.kind hkind fun env he s1 x => ?_
  subst he
  refine ⟨lim.keeps x.toInCall.keep, codeAny_func ?_⟩
  obtain ⟨t, ht, hq⟩ := hbody A outer s H vs Q E (hr.deeper _) hsp
  have I : Inv (cxOf CX P w K mg base N qual scope f cdv A outer s H E) [] (start N vs) H s1 := inv_start S hr.hd e0 hl r x
  refine wpAny_mono (ht [] s1 (start N vs) H _ I hq) (fun fl s' hs => ?_) fun e s' hs => hs
  have fin : ∀ {σ' : St} {H' : Hp} {v : V} {u : Value}, Inv (cxOf CX P w K mg base N qual scope f cdv A outer s H E) [] σ' H' s' → RelV v u → Q v H' → CE outer P w H s Q u s' :=
    fun {σ' H' v u} J rv q => ⟨v, H', J.os, J.bare, J.base, J.hok, rv, q⟩
  cases fl with
  | ret u =>
    obtain ⟨v, σ', H', J, rv, q⟩ := hs
    exact fin J rv q
  | next =>
    obtain ⟨σ', H', J, q⟩ := hs
    exact fin (v := V.non) (u := Value.none) J rfl q
  | brk =>
    obtain ⟨_, _, _, q⟩ := hs
    exact False.elim q
  | cont =>
    obtain ⟨_, _, _, q⟩ := hs
    exact False.elim q
end L2
namespace L2
open PySem PySem.Spec PyProof.Rows
section
variable {X : Cx} {x : Str} {p pos : Pos} {e : Expr} {es : List Expr} {t : TA} {id T : String} {r : List V → Hp → VK → Prop}
noncomputable def tCB (r : List V → Hp → VK → Prop) (t : TA) : TE := fun σ H Q => t σ H fun vs H1 => r vs H1 Q
theorem pe_callB (hc : CallR X (.builtin id) r) (hg : Gl X x) (hm : X.mg x = none) (hv : bootBuiltins x = some (.builtin id)) (ha : PA X (e :: es) t) (hn : x ≠ "__name__" := by decide) (hdb : (x == ("__debug__" : Str)) = false := by decide)
    (he : starEach (e :: es) X.env = (false, eval e X.env) :: starEach es X.env := by rfl) (hpl : (backTo pos (starEach es X.env)).any (·.1) = false := by rfl) : PE X (.Call (.Name x p) (e :: es) [] pos) (tCB r t) := by
  intro pins s σ H Q I h
  refine wpAny_Call_Name_kw (ld_blt I hg hm hv ?_ hn hdb)
  exact PyProof.Rows.callWith_builtin1 (thn (ha pos pins s σ H _ I h) fun us s1 ⟨vs, H1, I1, r1, q1⟩ => hc pins s1 σ H1 vs us Q I1 r1 q1) he hpl
theorem pe_callTy (hc : CallR X (.type T) r) (hg : Gl X x) (hm : X.mg x = none) (hv : bootBuiltins x = some (.type T)) (ha : PA X (e :: es) t) (hn : x ≠ "__name__" := by decide) (hdb : (x == ("__debug__" : Str)) = false := by decide)
    (he : starEach (e :: es) X.env = (false, eval e X.env) :: starEach es X.env := by rfl) (hpl : (backTo pos (starEach es X.env)).any (·.1) = false := by rfl) : PE X (.Call (.Name x p) (e :: es) [] pos) (tCB r t) := by
  intro pins s σ H Q I h
  refine wpAny_Call_Name_kw (ld_blt I hg hm hv ?_ hn hdb)
  exact PyProof.Rows.callWith_type1 (thn (ha pos pins s σ H _ I h) fun us s1 ⟨vs, H1, I1, r1, q1⟩ => hc pins s1 σ H1 vs us Q I1 r1 q1) he hpl
end
end L2
namespace HT
open PySem PyProof.Rows
noncomputable def lexLt : List Int → List Int → Bool
  | [], [] => false
  | [], _ :: _ => true
  | _ :: _, [] => false
  | x :: xs, y :: ys => if x = y then lexLt xs ys else decide (x < y)
theorem lexLt_cons (x y : Int) (xs ys : List Int) : lexLt (x :: xs) (y :: ys) = if x = y then lexLt xs ys else decide (x < y) := rfl
theorem lexLt_nil_nil : lexLt [] [] = false := rfl
theorem lexLt_nil_cons (y : Int) (ys : List Int) : lexLt [] (y :: ys) = true := rfl
theorem lexLt_cons_nil (x : Int) (xs : List Int) : lexLt (x :: xs) [] = false := rfl
theorem eqAt_int (A : Around) (s : Shared) (a : Int) (t : Tok) (c : Int) (u : Tok) : ∃ e, SeqAt.EqAt A s (.int a t) (.int c u) e ∧ (e = true ↔ a = c) :=
  ⟨(a == c), SeqAt.EqAt.int_int a t c u, by simp⟩
theorem rcLt_int (A : Around) (s : Shared) (a : Int) (t : Tok) (c : Int) (u : Tok) (prog : Program) (w : World) (E : Value → Shared → Prop) (Q : Value → Shared → Prop) (h : Q (.bool (decide (a < c))) s) :
    wpAny (model prog w) A (richCompare .Lt (.int a t) (.int c u)) Q E s :=
  (PyProof.Rows.lt_int h : wpAny (model prog w) A (compareOp .Lt (.int a t) (.int c u)) Q E s)
section
open PySem.SeqAt
open PySem.AutoSeq1 (wpAny_loadPart')
open PySem.MeetsSeq PySem.MeetsSeq2 PySem.MeetsSeq3
theorem tuple_lt_ints (l b : Addr) (items items2 : Array Value) (n n2 : Nat) (dd dd2 : Option Addr) (sl sl2 : Array (Option Value)) (ns ms : List Int) (hi : IntsAre items.toList ns) (hj : IntsAre items2.toList ms) :
    Meets (Builtin.«tuple.__lt__» ⟨[.ref l, .ref b], []⟩)
      (fun _ R s => s.heap.get? l = some { cls := .type "tuple", dict := dd, data := .seq items n, slots := sl } ∧ s.heap.get? b = some { cls := .type "tuple", dict := dd2, data := .seq items2 n2, slots := sl2 } ∧
        R (.ok (.ret (.bool (lexLt ns ms)))) s) :=
  .of_wp fun prog w A R s h => by
    obtain ⟨hp, g, d, tk, os⟩ := s; obtain ⟨hl, hb, h⟩ := h
    have f2 := AutoSeq1.sub_tuple_tuple
    have z1 : items.size = ns.length := by rw [← hi.length]; simp
    have z2 : items2.size = ms.length := by rw [← hj.length]; simp
    wp_walk using wpAny_loadPart' hl, wpAny_loadPart' hb, wpAny_forIn_list _ (fun rest b s' => b.1 = none ∧ s' = ⟨hp, g, d, tk, os⟩ ∧ ∃ (vs ws : List Value) (ns' ms' : List Int), rest = vs.zip ws ∧
      IntsAre vs ns' ∧ IntsAre ws ms' ∧ ns'.length + items2.size = ms'.length + items.size ∧ R (.ok (.ret (.bool (lexLt ns' ms')))) ⟨hp, g, d, tk, os⟩) _
    case turn =>
      rintro ⟨y, x⟩ rest b s' ⟨hb', rfl, vs, ws, ns', ms', hz, hvi, hwi, hlen, hR⟩
      cases hvi with
      | nil => rw [List.zip_nil_left] at hz; cases hz
      | cons a t hvi' =>
        cases hwi with
        | nil => rw [List.zip_nil_right] at hz; cases hz
        | cons c u hwi' =>
          rw [List.zip_cons_cons] at hz
          injection hz with hyx hrest
          injection hyx with hy hx
          subst hy hx
          rw [lexLt_cons] at hR
          simp only [List.length_cons] at hlen
          obtain ⟨e, he, hiff⟩ := eqAt_int A.in1 ⟨hp, g, d, tk, os⟩ a t c u
          refine wpAny_bind (he prog w _ _ ?_)
          cases e with
          | true =>
            rw [if_pos (hiff.mp rfl)] at hR
            wp_walk
            exact ⟨rfl, rfl, _, _, _, _, hrest, hvi', hwi', by omega, hR⟩
          | false =>
            rw [if_neg (fun q => absurd (hiff.mpr q) Bool.false_ne_true)] at hR
            have hri := rcLt_int A.in1 ⟨hp, g, d, tk, os⟩ a t c u prog w
            wp_walk using hri
            exact ⟨_, rfl, by simpa using hR⟩
    case fin =>
      rintro ⟨b1, b2⟩ s' ⟨hb', rfl, vs, ws, ns', ms', hz, hvi, hwi, hlen, hR⟩
      simp only at hb'
      subst hb'
      have hv : lexLt ns' ms' = decide (items.size < items2.size) := by
        cases hvi with
        | nil =>
          cases hwi with
          | nil =>
            simp only [List.length_nil] at hlen
            rw [lexLt_nil_nil]
            exact (decide_eq_false (by omega)).symm
          | cons c u hw =>
            simp only [List.length_nil, List.length_cons] at hlen
            rw [lexLt_nil_cons]
            exact (decide_eq_true (by omega)).symm
        | cons a t hv =>
          cases hwi with
          | nil =>
            simp only [List.length_nil, List.length_cons] at hlen
            rw [lexLt_cons_nil]
            exact (decide_eq_false (by omega)).symm
          | cons c u hw =>
            rw [List.zip_cons_cons] at hz
            cases hz
      rw [hv] at hR
      wp_walk
      exact ⟨_, rfl, by simpa [Builtin.Tuple.tupleCompareSizes] using hR⟩
    case h =>
      exact ⟨rfl, rfl, items.toList, items2.toList, ns, ms, rfl, hi, hj, by omega, h⟩
end
section
variable {prog : Program} {w : World} {A : Around} {E : Value → Shared → Prop} {s : Shared}
theorem lt_tupInts {l b : Addr} {items items2 : Array Value} {ns ms : List Int} {Q : Value → Shared → Prop} (hl : IsTup s.heap l items) (hb : IsTup s.heap b items2) (hi : IntsAre items.toList ns) (hj : IntsAre items2.toList ms)
    (hu : A.units < cLine) (h : Q (.bool (lexLt ns ms)) s) : wpAny (model prog w) A (compareOp .Lt (.ref l) (.ref b)) Q E s := by
  obtain ⟨⟨cls, dd, data, sl⟩, ho, hc, n, hd⟩ := id hl
  obtain ⟨⟨cls2, dd2, data2, sl2⟩, ho2, hc2, n2, hd2⟩ := id hb
  simp only at hc hd hc2 hd2
  subst hc hd hc2 hd2
  exact richCompare_meets_room (op := .Lt) ⟨_, ho, rfl⟩ ⟨_, ho2, rfl⟩ PySem.F.slot_tuple_lt PySem.F.entry_tuple_lt (PySem.F.args_tuple_lt_2 _ _) (tuple_lt_ints l b items items2 n n2 dd dd2 sl sl2 ns ms hi hj)
    ⟨ho, ho2, show Value.bool (lexLt ns ms) ≠ Value.notImplemented ∧ Q (.bool (lexLt ns ms)) s from ⟨(fun x => nomatch x), h⟩⟩ hu
theorem cat_tup {t b : Addr} {vs ws : List Value} {Q : Value → Shared → Prop} (ht : IsTup s.heap t vs.toArray) (hb : IsTup s.heap b ws.toArray) (hv : vs ≠ [])
    (h1 : ws = [] → Q (.ref t) s) (h2 : ws ≠ [] → Q (.ref s.heap.objs.size) { s with heap := s.heap.push { cls := .type "tuple", data := .seq (vs ++ ws).toArray } })
    (hsz : vs.length + ws.length ≤ sizeLine) : wpAny (model prog w) A (binaryOp .Add (.ref t) (.ref b)) Q E s := by
  obtain ⟨⟨cls, dd, data, sl⟩, ho, hc, n, hd⟩ := id ht
  obtain ⟨⟨cls2, dd2, data2, sl2⟩, ho2, hc2, n2, hd2⟩ := id hb
  simp only at hc hd hc2 hd2
  subst hc hd hc2 hd2
  have e : vs.toArray ++ ws.toArray = (vs ++ ws).toArray := by simp
  by_cases hw : ws = []
  · exact concat_meets ⟨_, ho, rfl⟩ ⟨_, ho2, rfl⟩ noFill_tuple_add seq_tuple_add PySem.F.slot_tuple_add PySem.F.entry_tuple_add (PySem.F.args_tuple_add_2 _ _)
      (tuple_addW1 t b vs.toArray ws.toArray n n2 dd dd2 sl sl2 (by simpa using hv) (by simp [hw])) ⟨ho, ho2, h1 hw⟩
  · refine concat_meets ⟨_, ho, rfl⟩ ⟨_, ho2, rfl⟩ noFill_tuple_add seq_tuple_add PySem.F.slot_tuple_add PySem.F.entry_tuple_add (PySem.F.args_tuple_add_2 _ _)
      (tuple_addW2 t b vs.toArray ws.toArray n n2 dd dd2 sl sl2 (by simpa using hv) (by simpa using hw) (by rw [List.size_toArray, List.size_toArray]; exact hsz)) ⟨ho, ho2, ?_⟩
    rw [e]
    exact h2 hw
noncomputable def sIx (n d : Nat) : Option Int → Nat
  | none => d
  | some v => if v < 0 then (v + (n : Int)).toNat else min v.toNat n
theorem sIx_nat (n d k : Nat) : sIx n d (some (k : Int)) = min k n := by
  show (if (k : Int) < 0 then ((k : Int) + (n : Int)).toNat else min (k : Int).toNat n) = min k n
  rw [if_neg (by omega), Int.toNat_natCast]
theorem sIx_le (n d : Nat) (hd : d ≤ n) (o : Option Int) : sIx n d o ≤ n := by
  cases o with
  | none => exact hd
  | some v =>
    show (if v < 0 then (v + (n : Int)).toNat else min v.toNat n) ≤ n
    by_cases hv : v < 0
    · rw [if_pos hv]; omega
    · rw [if_neg hv]; exact Nat.min_le_right _ _
theorem clip_eq (v : Int) (n d : Nat) : (if v < 0 then max (v + (n : Int)) 0 else min v (n : Int)) = ((sIx n d (some v) : Nat) : Int) := by
  show (if v < 0 then max (v + (n : Int)) 0 else min v (n : Int)) = (((if v < 0 then (v + (n : Int)).toNat else min v.toNat n) : Nat) : Int)
  by_cases hv : v < 0
  · simp only [if_pos hv]; omega
  · simp only [if_neg hv]; omega
theorem adjust_gen (lo hi : Option Int) (n : Nat) : Builtin.Slice.sliceAdjust lo hi 1 (n : Int) = (((sIx n 0 lo : Nat) : Int), ((sIx n n hi : Nat) : Int)) := by
  have h1 : ¬ ((1 : Int) < 0) := by omega
  unfold Builtin.Slice.sliceAdjust
  simp only [h1, if_false]
  refine Prod.ext ?_ ?_
  · cases lo with
    | none => rfl
    | some v => exact clip_eq v n 0
  · cases hi with
    | none => rfl
    | some v => exact clip_eq v n n
theorem places_gen (i j : Nat) : Builtin.Slice.slicePlaces (i : Int) (j : Int) 1 = j - i := by
  unfold Builtin.Slice.slicePlaces
  have h1 : (1 : Int) > 0 := by omega
  simp only [h1, if_true, Int.ediv_one]
  split <;> omega
theorem slicePart_ {v : Value} {o : Option Int} {Q : Option Int → Shared → Prop} (p : IsPart v o) (h : Q o s) : wpAny (model prog w) A (Builtin.Slice.slicePartIndex v) Q E s := by
  cases p with
  | none => exact slicePart_none h
  | int i t => exact slicePart_int h
theorem sliceApplied_gen {sl : Addr} {vl vu : Value} {lo hi : Option Int} {n : Nat} {Q : Int × Int × Nat → Shared → Prop} (hs : s.heap.IsSliceOf sl vl vu .none) (pl : IsPart vl lo) (pu : IsPart vu hi)
    (h : Q (((sIx n 0 lo : Nat) : Int), 1, sIx n n hi - sIx n 0 lo) s) : wpAny (model prog w) A (Builtin.Slice.sliceApplied (.ref sl) (pure (n : Int))) Q E s := by
  obtain ⟨os, hos, hcs, hds⟩ := id hs
  unfold Builtin.Slice.sliceApplied Builtin.Slice.sliceFields
  refine wpAny_bind (wpAny_bind (wpAny_field hos hds (x := vl) rfl (wpAny_bind (wpAny_field hos hds (x := vu) rfl (wpAny_bind (wpAny_field hos hds (x := .none) rfl (wpAny_pure ?_)))))))
  refine wpAny_bind (slicePart_none ?_)
  show wpAny _ _ (if ((1 : Int) == 0) = true then _ else _) _ _ s
  rw [if_neg (by decide)]
  refine wpAny_bind (slicePart_ pl (wpAny_bind (slicePart_ pu (wpAny_bind (wpAny_pure ?_)))))
  show wpAny _ _ (match Builtin.Slice.sliceAdjust lo hi 1 (n : Int) with | (lo, hi) => pure (lo, (1 : Int), Builtin.Slice.slicePlaces lo hi 1)) _ _ s
  rw [adjust_gen lo hi n]
  show wpAny _ _ (pure (((sIx n 0 lo : Nat) : Int), (1 : Int), Builtin.Slice.slicePlaces ((sIx n 0 lo : Nat) : Int) ((sIx n n hi : Nat) : Int) 1)) _ _ s
  rw [places_gen]
  exact wpAny_pure h
theorem pick_gen (xs : Array Value) (i k : Nat) : ((List.range k).filterMap fun (m : Nat) => xs[((i : Int) + (m : Int) * 1).toNat]?).toArray = ((xs.toList.drop i).take k).toArray := by
  have e : (fun (m : Nat) => xs[((i : Int) + (m : Int) * 1).toNat]?) = fun m => xs[i + m]? := by
    funext m
    have : ((i : Int) + (m : Int) * 1).toNat = i + m := by omega
    rw [this]
  rw [e]
  have := pick_run xs i k
  rw [List.filterMap_map] at this
  have e2 : ((fun x => xs[x]?) ∘ fun x => i + x) = fun m => xs[i + m]? := rfl
  rw [e2] at this
  rw [this]
theorem getItem_tuple_cut {t sl : Addr} {items : Array Value} {vl vu : Value} {lo hi : Option Int} {Q : Value → Shared → Prop} (ht : IsTup s.heap t items) (hs : s.heap.IsSliceOf sl vl vu .none) (pl : IsPart vl lo) (pu : IsPart vu hi)
    (hw : ¬ (sIx items.size 0 lo = 0 ∧ sIx items.size items.size hi = items.size))
    (h : Q (.ref s.heap.objs.size) { s with heap := s.heap.push { cls := .type "tuple", data := .seq ((items.toList.drop (sIx items.size 0 lo)).take (sIx items.size items.size hi - sIx items.size 0 lo)).toArray } })
    (hsz : items.size ≤ sizeLine) : wpAny (model prog w) A (getItem (.ref t) (.ref sl)) Q E s := by
  have htake : sizeOk (.seq ((items.toList.drop (sIx items.size 0 lo)).take (sIx items.size items.size hi - sIx items.size 0 lo)).toArray) := by
    show ((items.toList.drop (sIx items.size 0 lo)).take (sIx items.size items.size hi - sIx items.size 0 lo)).toArray.size ≤ sizeLine
    rw [List.size_toArray, List.length_take, List.length_drop, Array.length_toList]
    omega
  have hj : sIx items.size items.size hi ≤ items.size := sIx_le _ _ (Nat.le_refl _) hi
  obtain ⟨os, hos, hcs, hds⟩ := id hs
  have hTs : s.TypeIs (.ref sl) "slice" := ⟨os, hos, hcs⟩
  unfold getItem
  try with_reducible refine wpAny_holding ?_
  first | refine wpAny_bind (wpAny_pure ?_) | skip
  refine wpAny_bind (wpAny_sequenceKey ht.typeIs (by decide) ?_)
  refine wpAny_bind (wpAny_callSpecial?_slot (name := Str.ofString "__getitem__") ht.typeIs PyProof.Rows.slot_tuple_getitem
    (wpAny_call_entry PyProof.Rows.slot_tuple_getitem ht.typeIs entry_tuple_getitem ?_ (args_tuple_getitem _ _)))
  show wpAny _ _ (Builtin.Tuple.tupleItemsOf (.ref t) >>= _) _ _ s
  refine wpAny_bind (tupleItemsOf_ ht ?_)
  refine wpAny_bind (wpAny_typeOf hTs ?_)
  rw [if_pos (by decide)]
  refine wpAny_bind (sliceApplied_gen hs pl pu ?_)
  have hno : ¬ ((((sIx items.size 0 lo : Nat) : Int) == 0 && (1 : Int) == 1 && (sIx items.size items.size hi - sIx items.size 0 lo) == items.size) = true) := by
    intro q
    rw [Bool.and_eq_true, Bool.and_eq_true] at q
    have q1 : ((sIx items.size 0 lo : Nat) : Int) = 0 := eq_of_beq q.1.1
    have q2 : sIx items.size items.size hi - sIx items.size 0 lo = items.size := eq_of_beq q.2
    exact hw ⟨by omega, by omega⟩
  show wpAny _ _ (if (((sIx items.size 0 lo : Nat) : Int) == 0 && (1 : Int) == 1 && (sIx items.size items.size hi - sIx items.size 0 lo) == items.size) = true then _ else _) _ _ s
  rw [if_neg hno, pick_gen]
  first
    | exact wpAny_bind (m := Builtin.Tuple.tupleExact _) (wpAny_newObj_type (wpAny_pure ⟨_, rfl, wpAny_pure h⟩) htake)
    | exact wpAny_bind (m := Builtin.Tuple.tupleExact _) (wpAny_newObj_type (wpAny_bind (wpAny_pure (wpAny_pure ⟨_, rfl, wpAny_pure h⟩))) htake)
    | exact wpAny_bind (wpAny_bind (m := Builtin.Tuple.tupleExact _) (wpAny_newObj_type (wpAny_pure (wpAny_pure ⟨_, rfl, wpAny_pure h⟩)) htake))
    | exact wpAny_bind (wpAny_bind (m := Builtin.Tuple.tupleExact _) (wpAny_newObj_type (wpAny_pure ⟨_, rfl, wpAny_pure h⟩) htake))
end
end HT
namespace L2
open PySem PySem.Spec PyProof.Rows
noncomputable abbrev TO := St → Hp → (Option Int → Hp → Prop) → Prop
noncomputable def PO (X : Cx) (e : Option Expr) (t : TO) : Prop :=
  ∀ (pins : List (Addr × Obj)) (s : Shared) (σ : St) (H : Hp) (Q : Option Int → Hp → Prop), Inv X pins σ H s → t σ H Q →
    wpAny (model X.prog X.w) X.A (evalPart e X.env) (fun u s' => ∃ o H', Inv X pins σ H' s' ∧ IsPart u o ∧ Q o H') X.xe s
noncomputable def tNoPart : TO := fun _ H Q => Q none H
noncomputable def tPart (t : TE) : TO := fun σ H Q => t σ H fun x H1 => ∃ i, x = .int i ∧ Q (some i) H1
theorem intsAre_of {ns : List Int} : ∀ {us : List Value}, Vals (ns.map V.int) us → IntsAre us ns := by
  induction ns with
  | nil => intro us r; rw [List.map_nil] at r; cases r; exact .nil
  | cons n ns ih =>
    intro us r
    rw [List.map_cons] at r
    cases r with
    | cons r1 r2 =>
      obtain ⟨t, e⟩ := r1
      subst e
      exact .cons n t (ih r2)
section
variable {X : Cx} {e : Expr} {te : TE} {lo hi : Option Expr} {tl th : TO} {pos p2 : Pos}
theorem po_none : PO X none tNoPart := by
  intro pins s σ H Q I h
  rw [evalPart_none]
  exact wpAny_pure ⟨none, H, I, .none, h⟩
theorem po_some (h : PE X e te) : PO X (some e) (tPart te) := by
  intro pins s σ H Q I hw
  rw [evalPart_some]
  refine thn (h pins s σ H _ I hw) fun u s1 ⟨x, H1, I1, r1, q1⟩ => ?_
  obtain ⟨i, rfl, q⟩ := q1
  obtain ⟨t, rfl⟩ := r1
  exact ⟨some i, H1, I1, .int i t, q⟩
noncomputable def SlR (X : Cx) (r : V → Option Int → Option Int → Hp → VK → Prop) : Prop :=
  ∀ (pins : List (Addr × Obj)) (s : Shared) (σ : St) (H : Hp) (x : V) (v vl vu : Value) (lo hi : Option Int) (sl : Addr) (Q : VK), Inv X pins σ H s → RelV x v → s.heap.IsSliceOf sl vl vu .none → IsPart vl lo → IsPart vu hi → r x lo hi H Q →
    ∃ T id, typeLookup (.type T) "__getitem__" = pure (some (.builtin id)) ∧ s.TypeIs v T ∧ wpAny (model X.prog X.w) X.A (getItem v (.ref sl)) (EP X pins σ Q) X.xe s
noncomputable def tSl (r : V → Option Int → Option Int → Hp → VK → Prop) (te : TE) (tl th : TO) : TE := fun σ H Q => te σ H fun x H1 => tl σ H1 fun l H2 => th σ H2 fun u H3 => r x l u H3 Q
theorem pe_slice {r : V → Option Int → Option Int → Hp → VK → Prop} (hr : SlR X r) (he : PE X e te) (hl : PO X lo tl) (hu : PO X hi th) : PE X (.Subscript e (.Slice lo hi none p2) pos) (tSl r te tl th) := by
  intro pins s σ H Q I h
  refine Subscript_ (thn (he pins s σ H _ I h) fun v s1 ⟨x, H1, I1, r1, q1⟩ => ?_)
  refine wpAny_Slice (thn (hl pins s1 σ H1 _ I1 q1) fun vl s2 ⟨l, H2, I2, pl, q2⟩ => thn (hu pins s2 σ H2 _ I2 q2) fun vu s3 ⟨u, H3, I3, pu, q3⟩ => ?_)
  rw [evalPart_none]
  refine wpAny_pure ?_
  have I4 : Inv X pins σ H3 { s3 with heap := s3.heap.push { cls := .type "slice", data := .fields #[vl, vu, .none] } } := I3.kept (t' := s3.toks) fun b ob q => Heap.get?_push_of_some _ q
  obtain ⟨T, id, hT, ht, hg⟩ := hr pins { s3 with heap := s3.heap.push { cls := .type "slice", data := .fields #[vl, vu, .none] } } σ H3 x v vl vu l u s3.heap.objs.size Q I4 r1 (Heap.IsSliceOf.new ..) pl pu q3
  show wpAny (model X.prog X.w) X.A (subscriptTail e (.Slice lo hi none p2) v (.ref s3.heap.objs.size)) (EP X pins σ Q) X.xe { s3 with heap := s3.heap.push { cls := .type "slice", data := .fields #[vl, vu, .none] } }
  exact tail_any (ops := [.ref s3.heap.objs.size, v]) ht hT hg (by with_unfolding_all rfl)
noncomputable def cutV (xs : List V) (lo hi : Option Int) : List V := (xs.drop (HT.sIx xs.length 0 lo)).take (HT.sIx xs.length xs.length hi - HT.sIx xs.length 0 lo)
theorem cutV_length (xs : List V) (lo hi : Option Int) : (cutV xs lo hi).length ≤ xs.length := by
  unfold cutV
  rw [List.length_take, List.length_drop]
  omega
noncomputable def rLtT (K : PySem.W.Frag) : R2 := fun x y H Q => ∃ a b ns ms, x = .ref a ∧ y = .ref b ∧ SqT K H a (ns.map V.int) ∧ SqT K H b (ms.map V.int) ∧ Q (.bl (HT.lexLt ns ms)) H
theorem op_ltT (hu : X.A.units < cLine) : OpR X (compareOp .Lt) (rLtT X.K) := by
  intro pins s σ H x y v u Q I rx ry h
  obtain ⟨a, b, ns, ms, rfl, rfl, ha, hb, q⟩ := h
  cases rx
  cases ry
  obtain ⟨its, r1, p1, _⟩ := I.tuple ha
  obtain ⟨its2, r2, p2, _⟩ := I.tuple hb
  have i1 : IntsAre its.toArray.toList ns := intsAre_of r1
  have i2 : IntsAre its2.toArray.toList ms := intsAre_of r2
  exact HT.lt_tupInts p1 p2 i1 i2 hu ⟨.bl (HT.lexLt ns ms), H, I, rfl, q⟩
theorem Vals.nil_iff {xs : List V} {us : List Value} (r : Vals xs us) : us = [] ↔ xs = [] := by
  cases r with
  | nil => simp
  | cons _ _ => simp
end
end L2
namespace L2
open PySem PySem.Spec PyProof.Rows
noncomputable def ixN (n : Nat) (i : Int) : Option Nat := if 0 ≤ i then (if i < n then some i.toNat else none) else if -(n : Int) ≤ i then some (i + n).toNat else none
noncomputable def atI {α : Type} (xs : List α) (i : Int) : Option α := (ixN xs.length i).bind fun j => xs[j]?
theorem ixN_seq {n : Nat} {i : Int} {j : Nat} (h : ixN n i = some j) : seqIndex? i n = some j ∧ j < n ∧ -(n : Int) ≤ i ∧ i < n := by
  unfold ixN at h
  by_cases h0 : 0 ≤ i
  · rw [if_pos h0] at h
    by_cases h1 : i < n
    · rw [if_pos h1] at h
      have e : i.toNat = j := Option.some.inj h
      exact ⟨by rw [seqIndex_of h0 h1, e], by omega, by omega, h1⟩
    · rw [if_neg h1] at h; cases h
  · rw [if_neg h0] at h
    by_cases h1 : -(n : Int) ≤ i
    · rw [if_pos h1] at h
      have e : (i + n).toNat = j := Option.some.inj h
      exact ⟨by rw [seqIndex_neg (by omega) h1, e], by omega, h1, by omega⟩
    · rw [if_neg h1] at h; cases h
theorem atI_get {α : Type} {xs : List α} {i : Int} {v : α} (h : atI xs i = some v) : ∃ j, seqIndex? i xs.length = some j ∧ xs[j]? = some v ∧ j < xs.length ∧ -(xs.length : Int) ≤ i ∧ i < xs.length := by
  unfold atI at h
  cases e : ixN xs.length i with
  | none => rw [e] at h; cases h
  | some j =>
    rw [e] at h
    obtain ⟨h1, h2, h3, h4⟩ := ixN_seq e
    exact ⟨j, h1, h, h2, h3, h4⟩
theorem atI_nat {α : Type} {xs : List α} {j : Nat} {v : α} (h : xs[j]? = some v) : atI xs (j : Int) = some v := by
  have hj : j < xs.length := (List.getElem?_eq_some_iff.mp h).1
  have e : ixN xs.length (j : Int) = some j := by
    unfold ixN
    rw [if_pos (by omega), if_pos (by omega)]; simp
  unfold atI; rw [e]; exact h
noncomputable def PlainIx (b : Expr) : Prop := ∀ o i, subscripted b false o i = operate [o, i] (getItem o i)
noncomputable def IxR (X : Cx) (r : R2) : Prop :=
  ∀ (value slice : Expr) (pins : List (Addr × Obj)) (s : Shared) (σ : St) (H : Hp) (x y : V) (v u : Value) (Q : VK), Inv X pins σ H s → RelV x v → RelV y u → r x y H Q →
    subscripted slice false v u = operate [v, u] (getItem v u) → wpAny (model X.prog X.w) X.A (subscriptTail value slice v u) (EP X pins σ Q) X.xe s
noncomputable def MtR (X : Cx) (id : String) (r : V → List V → Hp → VK → Prop) : Prop :=
  ∀ (pins : List (Addr × Obj)) (s : Shared) (σ : St) (H : Hp) (x : V) (xs : List V) (v : Value) (us : List Value) (Q : VK), Inv X pins σ H s → RelV x v → Vals xs us → r x xs H Q →
    wpAny (model X.prog X.w) X.A (call (.builtin id) (v :: us)) (EP X pins σ Q) X.xe s
section
variable {X : Cx} {a b : Expr} {ta tb : TE} {pos : Pos}
theorem pe_ix {r : R2} (hr : IxR X r) (ha : PE X a ta) (hb : PE X b tb) (hs : PlainIx b) : PE X (.Subscript a b pos) (tOp r ta tb) := by
  intro pins s σ H Q I h
  exact Subscript_ (binT ha hb I h fun v u s2 x y H2 I2 rx ry q => hr a b pins s2 σ H2 x y v u Q I2 rx ry q (hs _ _))
noncomputable def rIxL (K : PySem.W.Frag) : R2 := fun x y H Q => ∃ p xs i v, x = .ref p ∧ y = .int i ∧ SqL K H p xs ∧ atI xs i = some v ∧ Q v H
noncomputable def rIxT (K : PySem.W.Frag) : R2 := fun x y H Q => ∃ p xs i v, x = .ref p ∧ y = .int i ∧ SqT K H p xs ∧ atI xs i = some v ∧ Q v H
theorem ix_list : IxR X (rIxL X.K) := by
  intro value slice pins s σ H x y v u Q I rx ry h hs
  obtain ⟨p, xs, i, z, rfl, rfl, hq, he, q⟩ := h
  cases rx
  obtain ⟨t, rfl⟩ := ry
  obtain ⟨its, r, pl, hz⟩ := I.list hq
  obtain ⟨j, h1, h2, h3, h4, h5⟩ := atI_get he
  obtain ⟨w, ew, rw'⟩ := r.get h2
  have hl := r.length
  have hn := line63
  have fin : EP X pins σ Q w s := ⟨z, H, I, rw', q⟩
  by_cases h0 : 0 ≤ i
  · have hj : i.toNat = j := by
      rw [seqIndex_of h0 h5] at h1
      exact Option.some.inj h1
    exact item_listR pl.isList h0 (by omega) (by rw [hj]; simpa using ew) fin hs
  · have hj : (i + (its.toArray.size : Int)).toNat = j := by
      rw [seqIndex_neg (by omega) h4] at h1
      rw [List.size_toArray, ← hl]
      exact Option.some.inj h1
    exact subscriptTail_builtinR (x := w) pl.isList.typeIs slot_list_getitem.lookup
      (wpAny_getItem_list_neg (Q := fun r s' => r = w ∧ EP X pins σ Q r s') pl.isList (by omega) (by rw [List.size_toArray] <;> omega) (by omega) (by rw [hj]; simpa using ew) ⟨rfl, fin⟩) hs
theorem ix_tup : IxR X (rIxT X.K) := by
  intro value slice pins s σ H x y v u Q I rx ry h hs
  obtain ⟨p, xs, i, z, rfl, rfl, hq, he, q⟩ := h
  cases rx
  obtain ⟨t, rfl⟩ := ry
  obtain ⟨its, r, pl, hz⟩ := I.tuple hq
  obtain ⟨j, h1, h2, h3, h4, h5⟩ := atI_get he
  obtain ⟨w, ew, rw'⟩ := r.get h2
  have hl := r.length
  have hn := line63
  have fin : EP X pins σ Q w s := ⟨z, H, I, rw', q⟩
  exact subscriptTail_builtinR (x := w) pl.typeIs slot_tuple_getitem.lookup
    (getItem_tuple (j := j) (Q := fun r s' => r = w ∧ EP X pins σ Q r s') pl (by omega) (by omega) (by rw [List.size_toArray, ← hl]; exact h1) (by simpa using ew) ⟨rfl, fin⟩) hs
theorem mapSeq_set (its : List Value) (n j : Nat) (u : Value) : Obj.mapSeq (·.setIfInBounds j u) { cls := .type "list", data := .seq its.toArray n } = { cls := .type "list", data := .seq (its.set j u).toArray n } := by
  simp [Obj.mapSeq]
theorem Inv.lst {pins : List (Addr × Obj)} {σ : St} {H : Hp} {s : Shared} {p : Addr} {xs : List V} (I : Inv X pins σ H s) (h : H p = some (.lst xs)) :
    ∃ (its : List Value) (n : Nat), Vals xs its ∧ s.heap.get? p = some { cls := .type "list", data := .seq its.toArray n } ∧ xs.length ≤ sizeLine := by
  obtain ⟨z, its, n, r, e⟩ := I.hok p _ h
  exact ⟨its, n, r, e, z⟩
theorem Inv.lstUpd {pins : List (Addr × Obj)} {σ : St} {H : Hp} {s : Shared} {p : Addr} {xs ys : List V} {its its' : List Value} {n n' : Nat} {f : Obj → Obj} (I : Inv X pins σ H s) (h : H p = some (.lst xs))
    (ho : s.heap.get? p = some { cls := .type "list", data := .seq its.toArray n }) (hf : f { cls := .type "list", data := .seq its.toArray n } = { cls := .type "list", data := .seq its'.toArray n' }) (r : Vals ys its') (hz : ys.length ≤ sizeLine) (t : Nat) :
    Inv X pins σ (upd H p (.lst ys)) { s with heap := s.heap.update p f, toks := t } := by
  have e : (s.heap.update p f).get? p = some { cls := .type "list", data := .seq its'.toArray n' } := by
    rw [Heap.get?_update_self f ho (by rw [hf] <;> rfl), hf]
  refine I.write (x := p) (e := p) (by rw [h]; trivial) (.inl rfl) (fun b u hb q => (Heap.get?_update_other _ _ (Ne.symm hb)).trans q) ⟨_, e⟩ ?_
  exact ⟨hz, its', n', r, e⟩
noncomputable def rSetL : V → V → V → Hp → (Hp → Prop) → Prop := fun o i v H Q => ∃ p xs k j, o = .ref p ∧ i = .int k ∧ H p = some (.lst xs) ∧ ixN xs.length k = some j ∧ Q (upd H p (.lst (xs.set j v)))
theorem set_list : PSet X rSetL := by
  intro pins s σ H o i v ov iv u Q I ro ri rv h
  obtain ⟨p, xs, k, j, rfl, rfl, hp, hj, q⟩ := h
  cases ro
  obtain ⟨t, rfl⟩ := ri
  obtain ⟨its, n, r, ho, hz⟩ := I.lst hp
  obtain ⟨h1, h2, h3, h4⟩ := ixN_seq hj
  have hl := r.length
  have hn := line63
  have I' : Inv X pins σ (upd H p (.lst (xs.set j v))) { s with heap := s.heap.update p (Obj.mapSeq (·.setIfInBounds j u)) } :=
    I.lstUpd hp ho (mapSeq_set its n j u) (r.set rv j) (by rw [List.length_set]; exact hz) s.toks
  by_cases h0 : 0 ≤ k
  · have hk : k.toNat = j := by
      rw [seqIndex_of h0 h4] at h1
      exact Option.some.inj h1
    exact PySem.W.ki_setAt ho h0 (by omega) (by rw [List.size_toArray, ← hl]; exact h4) (by rw [hk]; exact ⟨_, I', q⟩)
  · have hk : (k + (its.toArray.size : Int)).toNat = j := by
      rw [seqIndex_neg (by omega) h3] at h1
      rw [List.size_toArray, ← hl]
      exact Option.some.inj h1
    exact PySem.W.ki_setBack ho (by omega) (by rw [List.size_toArray, ← hl]; exact h3) (by omega) (by rw [hk]; exact ⟨_, I', q⟩)
theorem slice_bounds (lo hi : Option Int) (n : Nat) : (sliceBounds lo hi none n).1 = ((HT.sIx n 0 lo : Nat) : Int) ∧ (sliceBounds lo hi none n).2.1 = ((HT.sIx n n hi : Nat) : Int) ∧ (sliceBounds lo hi none n).2.2 = 1 := by
  refine ⟨?_, ?_, rfl⟩
  · cases lo with
    | none => simp [sliceBounds, HT.sIx]
    | some i =>
      simp only [sliceBounds, HT.sIx, Option.getD_none, show (1 : Int) > 0 by decide, if_true]
      by_cases h : i < 0
      · simp only [h, if_true] <;> omega
      · simp only [h, if_false] <;> omega
  · cases hi with
    | none => simp [sliceBounds, HT.sIx]
    | some i =>
      simp only [sliceBounds, HT.sIx, Option.getD_none, show (1 : Int) > 0 by decide, if_true]
      by_cases h : i < 0
      · simp only [h, if_true] <;> omega
      · simp only [h, if_false] <;> omega
theorem slicePick_cut (its : List Value) (lo hi : Option Int) : slicePick its.toArray lo hi none = ((its.drop (HT.sIx its.length 0 lo)).take (HT.sIx its.length its.length hi - HT.sIx its.length 0 lo)).toArray := by
  obtain ⟨h1, h2, h3⟩ := slice_bounds lo hi its.toArray.size
  unfold slicePick
  rw [h1, h2, h3]
  simp only [sliceRange_one, pick_run, List.size_toArray] <;> rfl
noncomputable def rSlL (K : PySem.W.Frag) : V → Option Int → Option Int → Hp → VK → Prop := fun x lo hi H Q => ∃ a xs, x = .ref a ∧ SqL K H a xs ∧ ∀ p, H p = none → Q (.ref p) (upd H p (.lst (cutV xs lo hi)))
theorem sl_list : SlR X (rSlL X.K) := by
  intro pins s σ H x v vl vu lo hi sl Q I rx hs pl pu h
  obtain ⟨a, xs, rfl, hx, q⟩ := h
  cases rx
  obtain ⟨its, r, ht, hz⟩ := I.list hx
  have hlen := r.length
  refine ⟨"list", _, slot_list_getitem.lookup, ht.isList.typeIs, ?_⟩
  refine wpAny_getItem_list_slice ht.isList hs pl pu .none (by simp) ?_ (by rw [List.size_toArray] <;> omega)
  rw [slicePick_cut, ← hlen]
  refine ⟨.ref s.heap.objs.size, _, I.laid (t' := s.toks) (o := .lst (cutV xs lo hi)) (fun b ob q => Heap.get?_push_of_some _ q) (Nat.le_refl _) ?_, rfl, q _ (I.hok.fresh (Nat.le_refl _))⟩
  exact ⟨Nat.le_trans (cutV_length xs lo hi) hz, _, 0, (r.drop (HT.sIx xs.length 0 lo)).take (HT.sIx xs.length xs.length hi - HT.sIx xs.length 0 lo), Heap.get?_push_size _ rfl⟩
theorem call_len_seq : CallR X (.builtin "len") (fun xs H Q => ∃ p ys, xs = [.ref p] ∧ (SqL X.K H p ys ∨ SqT X.K H p ys) ∧ Q (.int ys.length) H) := by
  intro pins s σ H xs us Q I r h
  obtain ⟨p, ys, rfl, hq, q⟩ := h
  obtain ⟨u, rfl, rx⟩ := vals1 r
  cases rx
  have hn := line63
  rcases hq with hq | hq
  · obtain ⟨its, r', pl, hz⟩ := I.list hq
    have hlen := r'.length
    exact Calls.call_len_list pl.isList (by simp only [List.size_toArray] <;> omega) ⟨.int ys.length, H, I.tok _, ⟨s.toks + 1, by rw [List.size_toArray, hlen]⟩, q⟩
  · obtain ⟨its, r', pl, hz⟩ := I.tuple hq
    have hlen := r'.length
    exact len_tuple pl (by simp only [List.size_toArray] <;> omega) ⟨.int ys.length, H, I.tok _, ⟨s.toks + 1, by rw [List.size_toArray, hlen]⟩, q⟩
theorem call_tuple_of : CallR X (.type "tuple") (fun xs H Q => ∃ p ys, xs = [.ref p] ∧ ((SqL X.K H p ys ∧ ∀ l, H l = none → Q (.ref l) (upd H l (.tup ys))) ∨ (SqT X.K H p ys ∧ Q (.ref p) H))) := by
  intro pins s σ H xs us Q I r h
  obtain ⟨p, ys, rfl, h⟩ := h
  obtain ⟨u, rfl, rx⟩ := vals1 r
  cases rx
  rcases h with ⟨hq, q⟩ | ⟨hq, q⟩
  · obtain ⟨its, r', pl, hz⟩ := I.list hq
    have hlen := r'.length
    refine call_tuple_list pl.isList (fun h' kp => ?_) (by simp only [List.size_toArray] <;> omega)
    have I1 : Inv X pins σ H { s with heap := h' } := I.kept (t' := s.toks) kp
    have I2 : Inv X pins σ (upd H h'.objs.size (.tup ys)) { s with heap := h'.push { cls := .type "tuple", data := .seq its.toArray } } :=
      I1.laid (t' := s.toks) (fun b o e => Heap.get?_push_of_some _ e) (Nat.le_refl _) (show ObjOk X.prog X.w _ _ _ (.tup ys) from ⟨hz, its, r', IsTup.new _ _⟩)
    exact ⟨.ref h'.objs.size, _, I2, rfl, q _ (I1.hok.fresh (Nat.le_refl _))⟩
  · obtain ⟨its, r', pl, hz⟩ := I.tuple hq
    exact call_tuple_same pl ⟨.ref p, H, I, rfl, q⟩
noncomputable def tyV (K : PySem.W.Frag) (T : String) (x : V) (H : Hp) : Prop := match x with
  | .str _ => T = "str"
  | .int _ => T = "int"
  | .ref p => (T = "list" ∧ ∃ xs, SqL K H p xs) ∨ (T = "tuple" ∧ ∃ o, K.lookup p = some o ∧ o.cls = .type "tuple" ∧ o.dict = none) ∨
      (T = "dict" ∧ ((∃ kvs, H p = some (.dK kvs)) ∨ ∃ kvs, H p = some (.dT kvs))) ∨ (T = "set" ∧ ∃ S n, H p = some (.set S n))
  | _ => False
theorem tyV_is {pins : List (Addr × Obj)} {σ : St} {H : Hp} {s : Shared} {T : String} {x : V} {v : Value} (I : Inv X pins σ H s) (r : RelV x v) (ty : tyV X.K T x H) :
    s.TypeIs v T ∧ ∀ a, v = .ref a → ∃ ob, s.heap.get? a = some ob ∧ ob.dict = none := by
  cases x with
  | str z =>
    obtain ⟨t, rfl⟩ := r
    cases (show T = "str" from ty)
    exact ⟨typeIs_str s z t, fun _ e => nomatch e⟩
  | int i =>
    obtain ⟨t, rfl⟩ := r
    cases (show T = "int" from ty)
    exact ⟨typeIs_int s i t, fun _ e => nomatch e⟩
  | ref p =>
    cases r
    rcases ty with ⟨rfl, xs, hq⟩ | ⟨rfl, o, hk, hc, hd⟩ | ⟨rfl, hk⟩ | ⟨rfl, S, n, hk⟩
    · obtain ⟨its, _, pl, _⟩ := I.list hq
      refine ⟨pl.isList.typeIs, fun a e => ?_⟩
      cases e
      obtain ⟨o, n, e, c, hd, _⟩ := pl
      exact ⟨o, e, hd⟩
    · refine ⟨⟨o, I.kIn p o hk, hc⟩, fun a e => ?_⟩
      cases e
      exact ⟨o, I.kIn _ o hk, hd⟩
    · have z : ∃ o, s.heap.get? p = some o ∧ o.ExactDict := by
        rcases hk with ⟨kvs, hk⟩ | ⟨kvs, hk⟩
        · obtain ⟨_, _, _, _, o, _, _, e, ex, _⟩ := I.hok p _ hk
          exact ⟨o, e, ex⟩
        · obtain ⟨_, _, _, _, o, _, _, e, ex, _⟩ := I.hok p _ hk
          exact ⟨o, e, ex⟩
      obtain ⟨o, e, ex⟩ := z
      refine ⟨⟨o, e, ex.1⟩, fun a e2 => ?_⟩
      cases e2
      exact ⟨o, e, ex.2.1⟩
    · obtain ⟨o, _, _, _, e, ex, _⟩ := I.hok p _ hk
      refine ⟨⟨o, e, ex.1⟩, fun a e2 => ?_⟩
      cases e2
      exact ⟨o, e, ex.2.1⟩
  | _ => exact False.elim ty
noncomputable def tBM (K : PySem.W.Frag) (T : String) (r : V → List V → Hp → VK → Prop) (to : TE) (t : TA) : TE := fun σ H Q => to σ H fun x H1 => tyV K T x H1 ∧ t σ H1 fun xs H2 => r x xs H2 Q
variable {o e : Expr} {es : List Expr} {to : TE} {t : TA} {name : Str} {apos cpos : Pos} {T id : String} {r : V → List V → Hp → VK → Prop}
theorem pe_bm (pa : PlainAttrs T) (slot : Slot T name id) (hty : typeOf (.builtin id) = pure (.type "method_descriptor")) (hm : MtR X id r) (ho : PE X o to) (ha : PA X (e :: es) t)
    (hbase : attributeBase o name X.env (eval o X.env) = eval o X.env := by rfl)
    (hfew : ((backTo cpos (starEach (e :: es) X.env)).all (fun x => !x.1) && (backToKw cpos (keywordEach [] X.env)).all (fun x => x.1.isSome)
      && decide ((e :: es).length + ([] : List Keyword).length + (if ([] : List Keyword).isEmpty then 0 else 1) < 30)) = true := by rfl)
    (hline : (apos.endLine == cpos.line) = true := by rfl) (hs : starEach (e :: es) X.env = (false, eval e X.env) :: starEach es X.env := by rfl) (hplain : (backTo cpos (starEach es X.env)).any (·.1) = false := by rfl) :
    PE X (.Call (.Attribute o name apos) (e :: es) [] cpos) (tBM X.K T r to t) := by
  intro pins s σ H Q I h
  refine wpAny_Call_method_late hbase hfew hline rfl (thn (ho pins s σ H _ I h) fun v s1 ⟨x, H1, I1, r1, ty, q1⟩ => ?_)
  obtain ⟨h1, h2⟩ := tyV_is I1 r1 ty
  refine ⟨T, id, pa, slot, hty, h1, h2, ?_⟩
  have hA := ha cpos pins s1 σ H1 _ I1 q1
  rw [hs] at hA ⊢
  refine Calls.callWith_builtin (by show (false || (backTo cpos (starEach es X.env)).any (·.1)) = false; rw [hplain] <;> rfl) (Calls.evalArgs_plain ?_)
  exact thn hA fun us s2 ⟨vs, H2, I2, r2, q2⟩ => hm pins s2 σ H2 x vs v us Q I2 r1 r2 q2
/- xs.append(e), list.index on a module's tuple .. are MtR facts of 06m -/
end
end L2
namespace L2
open PySem PySem.Spec PyProof.Rows
noncomputable def MtM (X : Cx) (id : String) (r : V → List V → Hp → VK → Prop) : Prop :=
  ∀ (pins : List (Addr × Obj)) (s : Shared) (σ : St) (H : Hp) (x : V) (xs : List V) (v : Value) (us : List Value) (Q : VK), Inv X pins σ H s → RelV x v → Vals xs us → r x xs H Q →
    wpAny (model X.prog X.w) X.A (call (.builtin id) (v :: us)) (EP X pins σ Q) X.xe s
theorem Vals.one : ∀ {x : V} {us : List Value}, Vals [x] us → ∃ u, us = [u] ∧ RelV x u
  | _, _, .cons r .nil => ⟨_, rfl, r⟩
theorem Vals.two : ∀ {x y : V} {us : List Value}, Vals [x, y] us → ∃ u v, us = [u, v] ∧ RelV x u ∧ RelV y v
  | _, _, _, .cons r (.cons q .nil) => ⟨_, _, rfl, r, q⟩
section
variable {X : Cx} {pins : List (Addr × Obj)} {σ : St} {H : Hp} {s : Shared} {l b : Addr} {xs ys zs : List V}
theorem Inv.lset {its its' : List Value} {n : Nat} {f : Array Value → Array Value} {t' : Nat} (I : Inv X pins σ H s) (hH : H l = some (.lst xs))
    (e : s.heap.get? l = some { cls := .type "list", data := .seq its.toArray n }) (hf : f its.toArray = its'.toArray) (hv : Vals ys its') (hz : ys.length ≤ sizeLine) :
    Inv X pins σ (upd H l (.lst ys)) { s with heap := s.heap.update l (Obj.mapSeq f), toks := t' } := by
  have q := PySem.IsL.update e f
  rw [hf] at q
  refine I.write (x := l) (e := l) (by rw [hH]; exact trivial) (.inl rfl) (fun b' u hb hu => (Heap.get?_update_other s.heap (Obj.mapSeq f) (Ne.symm hb)).trans hu) ⟨_, q⟩ ?_
  exact ⟨hz, its', _, hv, q⟩
theorem Inv.lnew {its : List Value} {t' : Nat} (I : Inv X pins σ H s) (hv : Vals ys its) (hz : ys.length ≤ sizeLine) :
    Inv X pins σ (upd H s.heap.objs.size (.lst ys)) { s with heap := s.heap.push { cls := .type "list", data := .seq its.toArray }, toks := t' } :=
  I.laid (fun _ _ q => Heap.get?_push_of_some _ q) (Nat.le_refl _) ⟨hz, its, 0, hv, Heap.get?_push_size _ rfl⟩
theorem Inv.fresh (I : Inv X pins σ H s) : H s.heap.objs.size = none := I.hok.fresh (Nat.le_refl _)
theorem Inv.lstM (I : Inv X pins σ H s) (hH : H l = some (.lst xs)) : xs.length ≤ sizeLine ∧ ∃ (its : List Value) (n : Nat), Vals xs its ∧ xs.length = its.length ∧ s.heap.get? l = some { cls := .type "list", data := .seq its.toArray n } := by
  obtain ⟨z, its, n, r, e⟩ := I.hok l _ hH
  exact ⟨z, its, n, r, r.length, e⟩
theorem notLongL {n : Nat} (h : n ≤ sizeLine) : Builtin.List.listTooLong n = false := by
  unfold Builtin.List.listTooLong
  exact decide_eq_false (by omega)
end
section
variable {X : Cx}
noncomputable def rAppend : V → List V → Hp → VK → Prop := fun x vs H Q => ∃ l xs y, x = .ref l ∧ vs = [y] ∧ H l = some (.lst xs) ∧ xs.length < sizeLine ∧ Q .non (upd H l (.lst (xs ++ [y])))
theorem mt_append : MtM X "list.append" rAppend := by
  intro pins s σ H x vs v us Q I rx rv h
  obtain ⟨l, xs, y, rfl, rfl, hH, hz, q⟩ := h
  cases rx
  obtain ⟨u, rfl, ru⟩ := rv.one
  obtain ⟨z, its, n, r, hl, e⟩ := I.lstM hH
  refine call_meets F.slot_list_append ⟨_, e, rfl⟩ F.entry_list_append (F.args_list_append_2 _ _) (PySem.list_append l its.toArray n u (by rw [List.size_toArray]; omega)) ⟨e, ?_⟩
  refine ⟨.non, _, I.lset (its' := its ++ [u]) hH e (by simp) (r.append (.cons ru .nil)) ?_, rfl, q⟩
  rw [List.length_append, List.length_singleton]
  omega
noncomputable def rExtend : V → List V → Hp → VK → Prop := fun x vs H Q => ∃ l b xs zs, x = .ref l ∧ vs = [.ref b] ∧ H l = some (.lst xs) ∧ H b = some (.lst zs) ∧ xs.length + zs.length ≤ sizeLine ∧ Q .non (upd H l (.lst (xs ++ zs)))
theorem mt_extend : MtM X "list.extend" rExtend := by
  intro pins s σ H x vs v us Q I rx rv h
  obtain ⟨l, b, xs, zs, rfl, rfl, hH, hB, hz, q⟩ := h
  cases rx
  obtain ⟨u, rfl, ru⟩ := rv.one
  cases ru
  obtain ⟨z, its, n, r, hl, e⟩ := I.lstM hH
  obtain ⟨z2, its2, n2, r2, hl2, e2⟩ := I.lstM hB
  have hsz : its.toArray.size + its2.toArray.size ≤ sizeLine := by rw [List.size_toArray, List.size_toArray]; omega
  have hlong : ¬ (!its.toArray.isEmpty && Builtin.List.listTooLong (its.toArray.size + its2.toArray.size)) = true := by
    rw [notLongL hsz, Bool.and_false]
    exact Bool.false_ne_true
  refine call_meets F.slot_list_extend ⟨_, e, rfl⟩ F.entry_list_extend (F.args_list_extend_2 _ _)
    (AutoSeq1.list_extend_list_list_0 l its.toArray n b its2.toArray n2 hlong (by rw [List.size_toArray]; omega) (by omega)) ⟨e, e2, ?_⟩
  refine ⟨.non, _, I.lset (its' := its ++ its2) hH e (by simp) (r.append r2) ?_, rfl, q⟩
  rw [List.length_append]
  omega
noncomputable def rCat : R2 := fun x y H Q => ∃ l b xs zs, x = .ref l ∧ y = .ref b ∧ H l = some (.lst xs) ∧ H b = some (.lst zs) ∧ xs.length + zs.length ≤ sizeLine ∧ ∀ p, H p = none → Q (.ref p) (upd H p (.lst (xs ++ zs)))
theorem op_cat : OpR X (binaryOp .Add) rCat := by
  intro pins s σ H x y v u Q I rx ry h
  obtain ⟨l, b, xs, zs, rfl, rfl, hH, hB, hz, q⟩ := h
  cases rx
  cases ry
  obtain ⟨z, its, n, r, hl, e⟩ := I.lstM hH
  obtain ⟨z2, its2, n2, r2, hl2, e2⟩ := I.lstM hB
  refine PySem.P.add_list e e2 ?_ (by rw [List.size_toArray, List.size_toArray]; omega)
  have ea : its.toArray ++ its2.toArray = (its ++ its2).toArray := by simp
  rw [ea]
  exact ⟨.ref _, _, I.lnew (t' := s.toks) (r.append r2) (by rw [List.length_append]; omega), rfl, q _ I.fresh⟩
end
section
variable {prog : Program} {w : World} {A : Around} {E : Value → Shared → Prop} {s : Shared}
set_option maxRecDepth 100000 in
end
section
variable {X : Cx}
end
end L2
namespace Att
open PySem PySem.W PySem.Calls PyProof.Rows
theorem ints_of_wellAll {P : Params} {h : Heap} : ∀ (ns : List Int) (vs : List Value), WellAll P h vs (ns.map WData.int) → IntsAre vs ns := by
  intro ns
  induction ns with
  | nil =>
    intro vs w
    rw [List.map_nil] at w
    cases w
    exact .nil
  | cons n ns ih =>
    intro vs w
    rw [List.map_cons] at w
    cases w with
    | cons a b =>
      cases a
      exact .cons _ _ (ih _ b)
theorem script_of {l : OpenLaw} {n : Nat} (hn : l.most = some n) {P : Params} {h : Heap} {args : List WData} {vals : List Value}
    (hpre : l.row.toRowW.claim.pre args = true) (hwl : WellAll P h vals args) :
    ∃ a vs ns, vals = [Value.ref a] ∧ args = [WData.list (ns.map WData.int)] ∧ h.get? a = some { cls := .type "list", data := .seq vs.toArray } ∧ IntsAre vs ns ∧ ns.length ≤ n := by
  have hsh : WShape.hasAll [] args [.list .int] = true := (pre_splitW hpre).1
  have hc : l.pre.holds [] { args := args } = true := (pre_splitW hpre).2
  obtain ⟨d, r, rfl, h1, h2⟩ := hasAllW_cons hsh
  obtain rfl := hasAllW_nil h2
  obtain ⟨xs, rfl, h3⟩ := hasW_list h1
  obtain ⟨ns, rfl⟩ := items_int h3
  have hlen : ns.length ≤ n := by
    unfold OpenLaw.pre at hc
    have h4 : (WTm.not (.lt (.lit (.int (n : Int))) (.len (.arg 0)))).holds [] { args := [.list (ns.map .int)] } = true := by
      have h4 := (holds_andW hc).1
      rw [hn] at h4
      exact h4
    have h5 := condW_of h4 (w_not (w_lt w_lit (w_len_list (w_arg rfl))))
    rw [List.length_map] at h5
    refine Nat.le_of_not_lt fun q => ?_
    have q' : (n : Int) < ((ns.length : Nat) : Int) := by omega
    first
      | (rw [decide_eq_true q'] at h5; exact absurd h5 (by decide))
      | (simp at h5; omega)
  cases hwl with
  | cons w1 w2 =>
    cases w2
    cases w1 with
    | list ho hall => exact ⟨_, _, ns, rfl, rfl, ho, ints_of_wellAll ns _ hall, hlen⟩
theorem post_true (l : OpenLaw) (args : List WData) : l.row.toRowW.claim.post args (.bool true) args = true :=
  postW_of (r := l.row.toRowW) (X := (true == true))
    (show WShape.has [] (.bool true) .bool = true by first | rfl | decide | simp [WShape.has, WShape.arms, WShape.armsAll])
    (show (WTm.eq .res (.lit (.bool true))).value [] { args := args, res := some (.bool true), after := args } = some (.bool (true == true)) from w_eq_bool (w_res rfl) w_lit) rfl
theorem attach_call {l : OpenLaw} {n : Nat} {q : Program} {loose : List Str} {XP : (Str → Option Value) → Heap → Prop} {YP : World → Heap → Prop} {d : DefRec}
    (hn : l.most = some n) (hdf : d.params.defaults = [])
    (call : ∀ (w : World) (s₀ s₁ : Shared) (mg mb : Str → Option Value) (fa : Addr) (o : Obj) (pm cd doc : Value) (a : Addr) (vs : List Value) (ns : List Int),
      Ground q loose [] XP w s₀ mg mb s₁.heap → YP w s₁.heap →
      s₁.heap.get? fa = some o → o.data = .func (docDef d.name d.params d.body d.scope pm cd doc) → s₁.heap.CodeRec cd d.name → mg d.name = some (.ref fa) →
      s₁.heap.get? a = some { cls := .type "list", data := .seq vs.toArray } → IntsAre vs ns → ns.length ≤ n → s₁.gens = #[] →
      codeAny (model l.prog w) callerA (.call (.ref fa) ⟨[.ref a], []⟩) (fun r s' => r = .ok (.ret (.bool true)) ∧ OldK s₁.heap s'.heap ∧ s'.os = s₁.os ∧ AllBare s'.gens) s₁) :
    WalkO q loose XP YP l.row.toRowW d [] (fun f vs => PySem.call f vs) := by
  intro w s₀ s₁ mg mb G Y fa o pm cd doc dV kV ho hd hcd hD hmg hg args vals as hpre hlay hrd hwl hlo
  obtain rfl : dV = .none := Dflts.none hD hdf
  obtain rfl : kV = .none := Dflts.noKw hD
  obtain ⟨a, vs, ns, rfl, rfl, hobj, hints, hlen⟩ := script_of hn hpre hwl
  refine enter_call (codeAny_mono (call w s₀ s₁ mg mb fa o pm cd doc a vs ns G Y ho (fd_plain hd) hcd hmg hobj hints hlen hg) fun r s' hq => ?_)
  obtain ⟨rfl, h2, h3, h4⟩ := hq
  exact ⟨.inl ⟨.bool true, .bool true, [], rfl, fun _ => rfl, .bool true, post_true l _, fun _ => ⟨List.Pairwise.nil, fun _ hm => (nomatch hm)⟩⟩, h2, h3, h4⟩
section
variable {prog : Program} {w : World} {A : Around} {E : Value → Shared → Prop} {s : Shared} {K : Frag}
noncomputable def ledger (h : Heap) (L d : Addr) : List (Addr × Obj) := (List.range h.objs.size).filterMap fun a => if a = L ∨ a = d then none else (h.get? a).map fun o => (a, o)
end
end Att
namespace L2
open PySem PySem.Spec PyProof.Rows
theorem vals_ints : ∀ {vs : List Value} {ns : List Int}, IntsAre vs ns → Vals (ns.map V.int) vs
  | _, _, .nil => .nil
  | _, _, .cons n t h => .cons ⟨t, rfl⟩ (vals_ints h)
noncomputable def Only (H : Hp) : Prop := ∀ b, H b = none ∨ ∃ o xs, H b = some (.frz o (.lst xs))
theorem law_call {P : Program} {w : World} {K : PySem.W.Frag} {mg mb : Str → Option Value} {CX : CXT} {k : Nat} {fa a : Addr} {fd : FuncData} {x : Str} {sp : Sp} {s₁ : Shared} {vs : List Value} {ns : List Int}
    (KX : K.In s₁.heap) (hns : s₁.heap.Ns mainGlobals mg) (hb : s₁.heap.Ns builtinsNs mb) (hbb : ∀ x : Str, x ≠ "__name__" → mb x = bootBuiltins x) (hlim : s₁.heap.NoLimit) (hg : s₁.gens = #[])
    (ha : s₁.heap.get? a = some { cls := .type "list", data := .seq vs.toArray }) (hi : IntsAre vs ns) (hl : ns.length ≤ sizeLine) (hr : Room k callerA)
    (F : ∀ base : Heap, K.In base → base.Ns mainGlobals mg → FnOk P w K mg base CX k fa fd [x] sp) (hbind : ∀ (s : Shared) (u : Value), BindsTo s fd ⟨[u], []⟩ [(x, u)])
    (hsp : ∀ H : Hp, Only H → SqL K H a (ns.map V.int) → sp [.ref a] H (fun v _ => v = .bl true) fun _ _ _ => False)
    (hCX : ∀ H e s', CX [] H s₁ (fun _ _ _ => False) e s' → False) :
    codeAny (model P w) callerA (.call (.ref fa) ⟨[.ref a], []⟩) (fun r s' => r = .ok (.ret (.bool true)) ∧ OldK s₁.heap s'.heap ∧ s'.os = s₁.os ∧ AllBare s'.gens) s₁ := by
  have rv := vals_ints hi
  have lenV := hi.length
  -- from an abstract heap in which nothing but the script may be tracked
  have core : ∀ H : Hp, Only H → SqL K H a (ns.map V.int) → HOk P w H s₁.heap → (∀ b, H b ≠ none → b = a) → (H a ≠ none → K.lookup a = none) →
      codeAny (model P w) callerA (.call (.ref fa) ⟨[.ref a], []⟩) (fun r s' => r = .ok (.ret (.bool true)) ∧ OldK s₁.heap s'.heap ∧ s'.os = s₁.os ∧ AllBare s'.gens) s₁ := by
    intro H hO hS hok hA hK
    have base_of : ∀ {b : Addr} {o : Obj}, s₁.heap.get? b = some o → H b = none → (hidT s₁.heap H).get? b = some o := fun e n => hidT_get e n
    have noA : ∀ {b : Addr} {o : Obj} {es : Array DictEntry} {ep : Nat}, s₁.heap.get? b = some o → o.data = .dict es ep → H b = none := fun {b o es ep} e d => by
      cases q : H b with
      | none => rfl
      | some u =>
        have e' : b = a := hA b (by rw [q]; simp)
        subst e'
        rw [ha] at e; cases e
        have d' : Data.seq vs.toArray _ = Data.dict es ep := d
        cases d'
    have nsK : ∀ {b : Addr} {m : Str → Option Value}, s₁.heap.Ns b m → (hidT s₁.heap H).Ns b m := fun {b m} ⟨o, es, ep, e, d, r⟩ => ⟨o, es, ep, base_of e (noA e d), d, r⟩
    have hKb : K.In (hidT s₁.heap H) := fun b o e => base_of (KX b o e) (by
      cases q : H b with
      | none => rfl
      | some u =>
        have e' : b = a := hA b (by rw [q]; simp)
        subst e'
        rw [hK (by rw [q]; simp)] at e; cases e)
    have hM : Mod K mg (hidT s₁.heap H) := ⟨hKb, nsK hns, ⟨mb, nsK hb, hbb⟩, let ⟨mc, h1, h2⟩ := hlim; ⟨mc, nsK h1, h2⟩⟩
    have e0 : Env0 P w K mg (hidT s₁.heap H) callerA [] s₁ H := ⟨rfl, hM, fun b o e => of_hidT e, Nat.le_of_eq (hidT_size _ _), trivial, fun b hb => absurd (show b ∈ ([] : List Addr) from hb) (by simp), hok, .of_eq hg⟩
    refine codeAny_mono ((F _ hKb (nsK hns)).run callerA [] s₁ H ⟨[.ref a], []⟩ [.ref a] [.ref a] _ _ hr e0 (hbind s₁ (.ref a)) (.cons rfl .nil) (hsp H hO hS)) fun r s' h => ?_
    cases r with
    | error e => exact (hCX H e s' h).elim
    | ok fl =>
      cases fl with
      | next => exact False.elim h
      | brk => exact False.elim h
      | cont => exact False.elim h
      | ret u =>
        obtain ⟨v, H', os, bare, un, hok', r', q⟩ := h
        have q' : v = .bl true := q
        subst q'
        obtain rfl : u = Value.bool true := r'
        refine ⟨rfl, OldK.of_keep fun b o e => ?_, os, bare⟩
        cases q : H b with
        | none => exact un.keep b o e q (by intro z; exact absurd (show b ∈ ([] : List Addr) from z) (by simp)) (by simp)
        | some u =>
          rcases hO b with z | ⟨ob, xs, z⟩
          · rw [q] at z; cases z
          · have z2 := un.frzs b ob _ z
            obtain ⟨e1, _⟩ := hok b _ z
            obtain ⟨e2, _⟩ := hok' b _ z2
            rw [e] at e1; cases e1
            exact e2
  cases hk : K.lookup a with
  | some o =>
    -- the script is one of the module's own objects
    have e := KX a o hk
    rw [ha] at e
    cases e
    refine core (fun _ => none) (fun _ => .inl rfl) (.inr ⟨_, vs.toArray, _, hk, rfl, rfl, rfl, by rw [List.size_toArray, lenV]; exact hl, by simpa using rv⟩) (fun b u z => by have z' : (none : Option HO) = some u := z; cases z') (fun b z => absurd rfl z) fun z => absurd rfl z
  | none =>
    refine core (fun b => if b = a then some (.frz { cls := .type "list", data := .seq vs.toArray } (.lst (ns.map V.int))) else none) (fun b => ?_) (.inl (.inr ⟨{ cls := .type "list", data := .seq vs.toArray }, if_pos rfl⟩)) (fun b u z => ?_) (fun b z => ?_) fun _ => hk
    · by_cases hb : b = a
      · exact .inr ⟨_, _, if_pos hb⟩
      · exact .inl (if_neg hb)
    · by_cases hb : b = a
      · have z' := (if_pos hb).symm.trans z
        cases z'
        subst hb
        exact ⟨ha, by rw [List.length_map]; exact hl, vs, _, rv, ha⟩
      · have z' := (if_neg hb).symm.trans z
        cases z'
    · by_cases hb : b = a
      · exact hb
      · exact absurd (if_neg hb) z
end L2
namespace L2
open PySem PySem.Spec PyProof.Rows
theorem walk_of {l : PySem.W.OpenLaw} {n k : Nat} {q : Program} {loose : List Str} {XP : (Str → Option Value) → Heap → Prop} {YP : World → Heap → Prop} {d : DefRec} {K : Params → PySem.W.Frag} {CX : World → CXT} {sp : World → Sp} {x : Str}
    (hn : l.most = some n) (hn2 : n ≤ sizeLine) (hdf : d.params.defaults = []) (hr : Room k callerA)
    (hY : ∀ (w : World) (h : Heap), YP w h → (K w.params).In h)
    (F : ∀ (w : World) (mg : Str → Option Value) (fa : Addr) (h : Heap), (K w.params).In h → h.Ns mainGlobals mg → mg d.name = some (.ref fa) →
      ∃ fd : FuncData, (∀ (s : Shared) (u : Value), BindsTo s fd ⟨[u], []⟩ [(x, u)]) ∧
        ∀ base : Heap, (K w.params).In base → base.Ns mainGlobals mg → FnOk l.prog w (K w.params) mg base (CX w) k fa fd [x] (sp w))
    (hsp : ∀ (w : World) (H : Hp) (a : Addr) (ns : List Int), ns.length ≤ n → Only H → SqL (K w.params) H a (ns.map V.int) → sp w [.ref a] H (fun v _ => v = .bl true) fun _ _ _ => False)
    (hCX : ∀ (w : World) (H : Hp) (s : Shared) (e : Value) (s' : Shared), CX w [] H s (fun _ _ _ => False) e s' → False) :
    PySem.W.WalkO q loose XP YP l.row.toRowW d [] (fun f vs => PySem.call f vs) := by
  refine Att.attach_call hn hdf fun w s₀ s₁ mg mb fa o pm cd doc a vs ns G Y ho hd hcd hmg hobj hints hlen hg => ?_
  have KX := hY w _ Y
  obtain ⟨fd, hb, hF⟩ := F w mg fa _ KX G.T.g hmg
  exact law_call KX G.T.g G.T.b G.T.builtins G.T.nolimit hg hobj hints (Nat.le_trans hlen hn2) hr hF hb (fun H hO hS => hsp w H a ns hlen hO hS) fun H e s' => hCX w H s₁ e s'
end L2
namespace L2
open PySem PySem.Spec PyProof.Rows
noncomputable def defArgs (s : Stmt) : Arguments := match s with
  | .FunctionDef _ a _ _ _ _ _ _ _ _ => a
  | _ => { posonlyargs := [], args := [], vararg := none, kwonlyargs := [], kw_defaults := [], kwarg := none, defaults := [] }
noncomputable def defBody (s : Stmt) : List Stmt := match s with
  | .FunctionDef _ _ b _ _ _ _ _ _ _ => b
  | _ => []
noncomputable def defScope (s : Stmt) : Scope := match s with
  | .FunctionDef _ _ _ _ _ _ sc _ _ _ => sc
  | _ => { kind := .function, names := [], isGenerator := false, isCoroutine := false }
noncomputable abbrev CX0 : CXT := fun _ _ _ _ _ _ => False
noncomputable abbrev E0 : XK := fun _ _ _ => False
theorem pass0 {X : Cx} : Passes CX0 X E0 := fun _ _ _ _ _ _ _ h => h.elim
structure Fun (K : PySem.W.Frag) (x qual : Str) (st : Stmt) (f : Addr) (fd : FuncData) : Prop where
  ex : ∃ (oc : Value) (od : Option Addr) (kV doc pm : Value) (an : Option Addr) (cdv ct : Value) (osl : Array (Option Value)),
    fd = PySem.W.fnOf x qual (defArgs st) (defBody st) (defScope st) .none kV doc pm an cdv ct ∧ K.lookup f = some ⟨oc, od, .func fd, osl⟩ ∧ PySem.W.codeIn K cdv qual = true
  kp : PySem.W.keepIn K (.ref f) = true
section
variable {P : Program} {w : World} {K : PySem.W.Frag} {mg : Str → Option Value} {base : Heap}
theorem Fun.ok {x qual : Str} {st : Stmt} {f : Addr} {fd : FuncData} {N ps : List Str} {k : Nat} {sp : Sp} (F : Fun K x qual st f fd) (S : FnScope N ps (defScope st)) (len : ∀ vs H Q E, sp vs H Q E → vs.length = ps.length)
    (hbody : ∀ (cdv : Value) (A : Around) (outer : List Env) (s : Shared) (H : Hp) (vs : List V) (Q : VK) (E : XK), Room k (A.deeper (envOfC qual (defScope st) s.heap.objs.size f cdv)) → sp vs H Q E →
      ∃ t, PSs (cxOf CX0 P w K mg base N qual (defScope st) f cdv A outer s H E).nox (defBody st) t ∧ t { nx := fun _ H' => Q .non H', rt := Q } (start N vs) H) : FnOk P w K mg base CX0 (k + 1) f fd ps sp := by
  obtain ⟨oc, od, kV, doc, pm, an, cdv, ct, osl, rfl, lk, hcd⟩ := F.ex
  refine fn_of lk hcd S len fun A outer s H vs Q E hr hsp => ?_
  obtain ⟨t, h, q⟩ := hbody cdv A outer s H vs Q E hr hsp
  exact ⟨t, h.nox, q⟩
theorem Fun.binds {x qual : Str} {st : Stmt} {f : Addr} {fd : FuncData} {ps : List Str} (F : Fun K x qual st f fd)
    (h : ∀ (kV doc pm : Value) (an : Option Addr) (cdv ct : Value) (us : List Value), us.length = ps.length → bindArgs (PySem.W.fnOf x qual (defArgs st) (defBody st) (defScope st) .none kV doc pm an cdv ct) ⟨us, []⟩ = pure (ps.zip us)) : Binds K fd ps [] := by
  obtain ⟨oc, od, kV, doc, pm, an, cdv, ct, osl, rfl, lk, hcd⟩ := F.ex
  exact .all (h kV doc pm an cdv ct)
theorem fun_mk {x qual : Str} {st : Stmt} {f : Addr} {oc : Value} {od an : Option Addr} {osl : Array (Option Value)} {kV doc pm cdv ct : Value} (l : K.lookup f = some ⟨oc, od, .func (PySem.W.fnOf x qual (defArgs st) (defBody st) (defScope st) .none kV doc pm an cdv ct), osl⟩)
    (c : PySem.W.codeIn K cdv qual = true) (k : PySem.W.keepIn K (.ref f) = true) : Fun K x qual st f (PySem.W.fnOf x qual (defArgs st) (defBody st) (defScope st) .none kV doc pm an cdv ct) := ⟨⟨oc, od, kV, doc, pm, an, cdv, ct, osl, rfl, l, c⟩, k⟩
end
theorem hu_of {A : Around} {k : Nat} (hr : Room k A) : A.units + 1 < cLine := Nat.lt_of_le_of_lt (Nat.add_le_add_left (by decide : 1 ≤ 64) _) hr.units
theorem small1000 {n : Nat} (h : n ≤ 1000) : n < sizeLine := Nat.lt_of_le_of_lt h (by decide)
section
variable {X : Cx}
theorem pv (i : Nat) {x : Str} {pos : Pos} (hN : X.N[i]? = some x := by rfl) (hv : Vis X.env.scope x := by first | exact Or.inl rfl | exact Or.inr (Or.inl rfl) | exact Or.inr (Or.inr rfl)) (hd : (x == ("__debug__" : Str)) = false := by decide)
    (hcd : (x == ("__classdict__" : Str)) = false := by decide) : PE X (.Name x pos) (tVar i) := pe_var hN hv hd hcd
end
theorem iteF {A B : Prop} (h : B) : if false = true then A else B := by
  rw [if_neg Bool.false_ne_true]
  exact h
theorem iteT {A B : Prop} (h : A) : if true = true then A else B := by
  rw [if_pos rfl]
  exact h
noncomputable def Same (H H' : Hp) : Prop := ∀ b o, H b = some o → H' b = some o
theorem Same.refl (H : Hp) : Same H H := fun _ _ h => h
theorem Same.trans {H H1 H2 : Hp} (a : Same H H1) (b : Same H1 H2) : Same H H2 := fun c o h => b c o (a c o h)
theorem Same.free {H H' : Hp} (e : Same H H') {l : Addr} (h : H' l = Option.none) : H l = Option.none := by
  cases q : H l with
  | none => rfl
  | some o =>
    rw [e l o q] at h
    cases h
theorem Same.seq {K : PySem.W.Frag} {H H' : Hp} {a : Addr} {xs : List V} (e : Same H H') (h : SqL K H a xs) : SqL K H' a xs := by
  rcases h with (h | ⟨o, h⟩) | h
  · exact .inl (.inl (e _ _ h))
  · exact .inl (.inr ⟨o, e _ _ h⟩)
  · exact .inr h
end L2
namespace L2
open PySem PySem.Spec PyProof.Rows
section
variable {κ : Type} [DecidableEq κ]
noncomputable def valV (kvs : List (κ × V)) (k : κ) : Option V := (kvs.find? fun kv => decide (kv.1 = k)).map (·.2)
noncomputable def putK (kvs : List (κ × V)) (k : κ) (v : V) : List (κ × V) :=
  if (kvs.any fun kv => decide (kv.1 = k)) = true then kvs.map (fun kv => if kv.1 = k then (kv.1, v) else kv) else kvs ++ [(k, v)]
theorem valV_pos {p : κ × V} {r : List (κ × V)} {k : κ} (e : p.1 = k) : valV (p :: r) k = some p.2 := by simp [valV, List.find?_cons, e]
theorem valV_neg {p : κ × V} {r : List (κ × V)} {k : κ} (e : ¬ p.1 = k) : valV (p :: r) k = valV r k := by simp [valV, List.find?_cons, e]
theorem valV_any (k : κ) : ∀ kvs : List (κ × V), (kvs.any fun kv => decide (kv.1 = k)) = (valV kvs k).isSome
  | [] => rfl
  | p :: r => by
    rw [List.any_cons]
    by_cases e : p.1 = k
    · simp only [valV_pos e, decide_eq_true e, Bool.true_or, Option.isSome_some]
    · rw [valV_neg e, decide_eq_false e, Bool.false_or]; exact valV_any k r
theorem length_putK (kvs : List (κ × V)) (k : κ) (v : V) : (putK kvs k v).length ≤ kvs.length + 1 := by
  unfold putK
  split
  · rw [List.length_map]; omega
  · rw [List.length_append, List.length_cons, List.length_nil]; omega
theorem putK_new {kvs : List (κ × V)} {k : κ} (v : V) (h : valV kvs k = none) : putK kvs k v = kvs ++ [(k, v)] := by
  unfold putK
  rw [valV_any, h]
  exact if_neg (by decide)
theorem RelO.isSome_eq {o : Option V} {u : Option Value} (r : RelO o u) : o.isSome = u.isSome := by
  cases o with
  | none => cases u with
    | none => rfl
    | some _ => exact (show False from r).elim
  | some _ => cases u with
    | none => exact (show False from r).elim
    | some _ => rfl
theorem KV.val {kvs : List (κ × V)} {vs : List (κ × Value)} (r : KV kvs vs) (k : κ) : RelO (valV kvs k) (valueAt vs k) := by
  unfold KV at r
  induction r with
  | nil => exact True.intro
  | @cons p q ps qs h t ih =>
    obtain ⟨h1, h2⟩ := h
    by_cases e : p.1 = k
    · have e' : q.1 = k := h1.symm.trans e
      have b : valueAt (q :: qs) k = some q.2 := by simp [valueAt, List.find?_cons, e']
      rw [valV_pos e, b]; exact h2
    · have e' : ¬ q.1 = k := fun z => e (h1.trans z)
      have b : valueAt (q :: qs) k = valueAt qs k := by simp [valueAt, List.find?_cons, e']
      rw [valV_neg e, b]; exact ih
end
theorem kV_is {P : Program} {w : World} {k : Key} {u : Value} (r : RelV (kV k) u) : (mixKind P w).is k u = true := by
  cases k with
  | inl i => obtain ⟨t, e⟩ := (show ∃ t, u = Value.int i t from r); subst e; exact mixKind_int P w i t
  | inr x => obtain ⟨t, e⟩ := (show ∃ t, u = Value.str x t from r); subst e; exact mixKind_str P w x t
theorem items_are {P : Program} {w : World} : ∀ {ks : List Key} {us : List Value}, Vals (ks.map kV) us → ItemsAre (mixKind P w) ks us
  | [], _, r => by rw [List.map_nil] at r; cases r; exact .nil
  | k :: ks, _, r => by
    rw [List.map_cons] at r
    cases r with
    | cons h t => exact .cons (kV_is h) (items_are t)
noncomputable abbrev KT (H : Hp) : List (List Key × V) → List (List Key × Addr × Value) → Prop := Paired fun p q => p.1 = q.1 ∧ H q.2.1 = some (.tup (p.1.map kV)) ∧ RelV p.2 q.2.2
theorem KT.val {H : Hp} {kvs : List (List Key × V)} {xs : List (List Key × Addr × Value)} (r : KT H kvs xs) (k : List Key) : RelO (valV kvs k) ((atKey xs k).map (·.2)) := by
  induction r with
  | nil => exact True.intro
  | @cons p q ps qs h t ih =>
    obtain ⟨h1, _, h2⟩ := h
    by_cases e : p.1 = k
    · have e' : q.1 = k := h1.symm.trans e
      have b : atKey (q :: qs) k = some q.2 := by simp [atKey, List.find?_cons, e']
      rw [valV_pos e, b]; exact h2
    · have e' : ¬ q.1 = k := fun z => e (h1.trans z)
      have b : atKey (q :: qs) k = atKey qs k := by simp [atKey, List.find?_cons, e']
      rw [valV_neg e, b]; exact ih
theorem KT.repl {H : Hp} {kvs : List (List Key × V)} {xs : List (List Key × Addr × Value)} (r : KT H kvs xs) (k : List Key) {y : V} {u : Value} (ry : RelV y u) :
    KT H (kvs.map fun kv => if kv.1 = k then (kv.1, y) else kv) (xs.map (putAt k u)) := by
  induction r with
  | nil => exact .nil
  | @cons p q ps qs h t ih =>
    rw [List.map_cons, List.map_cons]
    refine .cons ?_ ih
    obtain ⟨h1, h2, h3⟩ := h
    unfold putAt
    by_cases e : p.1 = k
    · rw [if_pos e, if_pos (h1.symm.trans e)]; exact ⟨h1, h2, ry⟩
    · rw [if_neg e, if_neg (fun z => e (h1.trans z))]; exact ⟨h1, h2, h3⟩
theorem KT.put {H : Hp} {kvs : List (List Key × V)} {xs : List (List Key × Addr × Value)} (r : KT H kvs xs) (k : List Key) {b : Addr} {y : V} {u : Value} (hb : H b = some (.tup (k.map kV))) (ry : RelV y u) :
    KT H (putK kvs k y) (storedH xs k b u) := by
  have e : (kvs.any fun kv => decide (kv.1 = k)) = (atKey xs k).isSome := by
    rw [valV_any, (r.val k).isSome_eq, Option.isSome_map]
  unfold putK storedH
  rw [e]
  by_cases q : (atKey xs k).isSome = true
  · rw [if_pos q, if_pos q]; exact r.repl k ry
  · rw [if_neg q, if_neg q]; exact Paired.snoc r ⟨rfl, hb, ry⟩
theorem KT.keeps {H H' : Hp} {kvs : List (List Key × V)} {xs : List (List Key × Addr × Value)} (r : KT H kvs xs) (ht : ∀ b ys, H b = some (.tup ys) → H' b = some (.tup ys)) : KT H' kvs xs :=
  Paired.mapP r fun _ _ z => ⟨z.1, ht _ _ z.2.1, z.2.2⟩
section
variable {P : Program} {w : World} {H : Hp} {h : Heap} {a : Addr}
theorem rd_of {u : HO} (ok : HOk P w H h) (e : Rd H a u) : ObjOk P w H h a u := e.ok ok
theorem dk_rd {kvs : List (Key × V)} (ok : HOk P w H h) (e : Rd H a (.dK kvs)) : kvs.length ≤ sizeLine ∧ (a == sysModules) = false ∧ ∃ vs, KV kvs vs ∧ h.DictOf (mixKind P w) a vs :=
  show ObjOk P w H h a (.dK kvs) from rd_of ok e
theorem key_of {ks : List Key} (ok : HOk P w H h) (e : H a = some (.tup (ks.map kV))) : (tupleKind (mixKind P w)).is h ks a := by
  obtain ⟨_, its, r, o, h1, h2, n, h3⟩ := (show ObjOk P w H h a (.tup (ks.map kV)) from ok a _ e)
  exact ⟨o, its.toArray, n, h1, h2, h3, by simpa using items_are r⟩
theorem dt_rd {kvs : List (List Key × V)} (ok : HOk P w H h) (e : Rd H a (.dT kvs)) : kvs.length ≤ sizeLine ∧ (a == sysModules) = false ∧
    ∃ xs, KT H kvs xs ∧ h.DictOfH (tupleKind (mixKind P w)) a xs := by
  obtain ⟨z, y, xs, r, o, es, ep, h1, h2, h3, h4, h5⟩ := (show ObjOk P w H h a (.dT kvs) from rd_of ok e)
  refine ⟨z, y, xs, r, o, es, ep, h1, h2, h3, h4, fun x hx => ?_, h5⟩
  have all : ∀ {l : List (List Key × V)} {m : List (List Key × Addr × Value)}, KT H l m → ∀ x ∈ m, (tupleKind (mixKind P w)).is h x.1 x.2.1 := by
    intro l m q
    induction q with
    | nil => intro x hx; exact nomatch hx
    | @cons p q ps qs hq t ih =>
      intro x hx
      rcases List.mem_cons.mp hx with e | hx
      · subst e
        exact key_of ok (by rw [← hq.1]; exact hq.2.1)
      · exact ih x hx
  exact all r x hx
theorem dt_of {kvs : List (List Key × V)} (ok : HOk P w H h) (e : H a = some (.dT kvs)) : kvs.length ≤ sizeLine ∧ (a == sysModules) = false ∧
    ∃ xs, KT H kvs xs ∧ h.DictOfH (tupleKind (mixKind P w)) a xs := dt_rd ok (.inl e)
end
noncomputable def DGet (H : Hp) (a : Addr) (y : V) (r : Option V) : Prop :=
  (∃ kvs k, Rd H a (.dK kvs) ∧ y = kV k ∧ r = valV kvs k) ∨ ∃ kvs k b, Rd H a (.dT kvs) ∧ y = .ref b ∧ H b = some (.tup (k.map kV)) ∧ r = valV kvs k
theorem DGet.t {H : Hp} {a b : Addr} {kvs : List (List Key × V)} {k : List Key} (e : H a = some (.dT kvs)) (eb : H b = some (.tup (k.map kV))) : DGet H a (.ref b) (valV kvs k) := .inr ⟨kvs, k, b, .inl e, rfl, eb, rfl⟩
section
variable {X : Cx} {pins : List (Addr × Obj)} {σ : St} {H : Hp} {s : Shared} {a : Addr} {y v : V} {u r : Value} {o : Option V} {A : Around} {E : Value → Shared → Prop}
theorem Inv.big (I : Inv X pins σ H s) : sysModules < s.heap.objs.size := by
  have h : mainGlobals < s.heap.objs.size := (I.mod.glob.keeps I.bk).lt
  exact Nat.lt_trans (by decide) h
theorem d_getItem {Q : Value → Shared → Prop} (hu : A.units + 1 < cLine) (I : Inv X pins σ H s) (g : DGet H a y (some v)) (ry : RelV y u) (h : ∀ w' s', Inv X pins σ H s' → RelV v w' → Q w' s') :
    wpAny (model X.prog X.w) A (getItem (.ref a) u) Q E s := by
  rcases g with ⟨kvs, k, e, ey, l⟩ | ⟨kvs, k, b, e, ey, eb, l⟩
  · subst ey
    obtain ⟨z, hd, vs, rel, dd⟩ := dk_rd I.hok e
    obtain ⟨w', hw, rw'⟩ := RelO.some_of (v := v) (o := valueAt vs k) (by rw [l]; exact rel.val k)
    exact wpAny_getItem_of (kV_is ry) dd.mapOf hw (h w' _ (I.tok _) rw')
  · subst ey
    cases (show u = Value.ref b from ry)
    obtain ⟨z, hd, xs, rel, dd⟩ := dt_rd I.hok e
    obtain ⟨w', hw, rw'⟩ := RelO.some_of (v := v) (o := (atKey xs k).map (·.2)) (by rw [l]; exact rel.val k)
    obtain ⟨p, hp, hp2⟩ := Option.map_eq_some_iff.mp hw
    refine wpAny_getItem_heap (tupleKind_room_in1 hu) (key_of I.hok eb) dd hp ?_
    rw [hp2]
    exact h w' _ (I.tok _) rw'
theorem d_write {h' : Heap} {t' : Nat} {ob : HO} (I : Inv X pins σ H s) (mu : Mut (H a)) (hs : Heap.SameBut a s.heap h') (he : ∃ q, h'.get? a = some q) (new : ObjOk X.prog X.w (upd H a ob) h' a ob) :
    Inv X pins σ (upd H a ob) { s with heap := h', toks := t' } :=
  I.write (x := a) (e := a) mu (.inl rfl) (fun b q hb z => (hs.2 b hb).trans z) he new
end
section
variable {X : Cx} {pins : List (Addr × Obj)} {σ : St} {H : Hp} {s : Shared} {a : Addr} {kvs : List (Key × V)} {k : Key} {u : Value} {A : Around} {E : Value → Shared → Prop}
end
noncomputable def NoSl (i : Expr) : Prop := ∀ ov iv, subscripted i false ov iv = operate [ov, iv] (getItem ov iv)
theorem subD_of {prog : Program} {w : World} {A : Around} {E : Value → Shared → Prop} {s : Shared} {env : Env} {value slice : Expr} {pos : Pos} {T id : String} {Q : Value → Shared → Prop}
    (hl : typeLookup (.type T) "__getitem__" = pure (some (.builtin id))) (hs : NoSl slice)
    (h : wpAny (model prog w) A (eval value env) (fun o s₁ => wpAny (model prog w) A (eval slice env) (fun i s₂ => s₂.TypeIs o T ∧ wpAny (model prog w) A (getItem o i) Q E s₂) E s₁) E s) :
    wpAny (model prog w) A (eval (.Subscript value slice pos) env) Q E s := by
  refine Subscript_ (wpAny_mono h (fun o s₁ h₁ => wpAny_mono h₁ (fun i s₂ h₂ => ?_) fun _ _ x => x) fun _ _ x => x)
  obtain ⟨hT, h₂⟩ := h₂
  unfold subscriptTail
  refine wpAny_bind ?_
  rw [getitemInPython_of_ne hT.not_modules]
  refine wpAny_bind (wpAny_specialOf hT hl ?_)
  have fin : wpAny (model prog w) A (subscripted slice false o i) (fun r s₃ => wpAny (model prog w) A (letTemporaryGo value o r >>= fun _ => pure r) Q E s₃) E s₂ := by
    rw [hs o i]
    exact wpAny_operating (wpAny_mono h₂ (fun r s₃ h₃ => wpAny_bind (wpAny_letTemporaryGo (wpAny_pure h₃))) fun _ _ x => x)
  first
    | exact wpAny_pure (wpAny_bind fin)
    | exact wpAny_bind (wpAny_pure (wpAny_bind fin))
    | exact wpAny_bind fin
theorem dict_typeIs {X : Cx} {pins : List (Addr × Obj)} {σ : St} {H : Hp} {s : Shared} {a : Addr} {y : V} {o : Option V} (I : Inv X pins σ H s) (g : DGet H a y o) : s.TypeIs (.ref a) "dict" := by
  rcases g with ⟨kvs, k, e, _, _⟩ | ⟨kvs, k, b, e, _, _, _⟩
  · obtain ⟨_, _, vs, _, dd⟩ := dk_rd I.hok e
    exact dd.typeIs
  · obtain ⟨_, _, xs, _, dd⟩ := dt_rd I.hok e
    exact dd.typeIs
noncomputable def tDGet (td ty : TE) : TE := fun σ H Q => td σ H fun x H1 => ty σ H1 fun y H2 => ∃ a v, x = .ref a ∧ DGet H2 a y (some v) ∧ Q v H2
section
variable {X : Cx} {o i e value : Expr} {pos pos' tpos : Pos} {td ty tv : TE}
theorem pe_dget (hu : X.A.units + 1 < cLine) (ho : PE X o td) (hi : PE X i ty) (hs : NoSl i) : PE X (.Subscript o i pos) (tDGet td ty) := by
  intro pins s σ H Q I h
  refine subD_of PySem.F.slot_dict_getitem.lookup hs (thn (ho pins s σ H _ I h) fun u s1 ⟨x, H1, I1, rx, q1⟩ => thn (hi pins s1 σ H1 _ I1 q1) fun iv s2 ⟨y, H2, I2, ry, a, v, ex, g, q2⟩ => ?_)
  subst ex
  obtain rfl : u = Value.ref a := rx
  exact ⟨dict_typeIs I2 g, d_getItem hu I2 g ry fun w' s3 I3 rw' => ⟨v, H2, I3, rw', q2⟩⟩
end
section
variable {X : Cx} {pos : Pos}
end
end L2
set_option maxHeartbeats 4000000
namespace L2
open PySem PySem.Spec PyProof.Rows
structure CompZ where
  cl : List (Str × Addr)
  C : Addr
  s : Shared
  H : Hp
  fp : List Addr
  pn : List (Addr × Obj)
noncomputable def compCx (X : Cx) (N : List Str) (scope : Scope) (Z : CompZ) : Cx where
 prog := X.prog
 w := X.w
 K := X.K
 mg := X.mg
 base := X.base
 A := X.A
 N := N
 s₀ := Z.s
 H₀ := Z.H
 env := compEnvC scope Z.cl Z.C X.env
 outer := X.stack
 stack := X.stack
 ex := Z.fp
 fn := fun _ => false
 calm := X.calm
 pn := Z.pn
 xe := fun _ _ => False
noncomputable def CompOk (ns : List (Str × NameKind)) (N : List Str) (scope : Scope) (frees : List (Str × Nat)) : Prop :=
 (∀ x ∈ scope.names, x.2 ≠ .cell ∧ (x.2 = .local → scope.names.lookup x.1 = some .local) ∧ (x.2 = .free → ns.lookup x.1 = some .cell ∨ ns.lookup x.1 = some .free)) ∧
 ∀ p ∈ frees, N[p.2]? = some p.1 ∧ scope.names.lookup p.1 = some .free ∧ (ns.lookup p.1 = some .cell ∨ ns.lookup p.1 = some .free)
instance (ns : List (Str × NameKind)) (N : List Str) (scope : Scope) (frees : List (Str × Nat)) : Decidable (CompOk ns N scope frees) := by unfold CompOk; infer_instance
noncomputable def σC (n : Nat) (frees : List (Str × Nat)) (σ : St) : St := List.replicate n none ++ frees.map fun p => (σ[p.2]?).join
theorem clos_ok {env : Env} {scope : Scope} (hf : ∀ x ∈ scope.names, x.2 = .free → ∃ c, env.cells.lookup x.1 = some c) :
  ∃ cl, closureFor scope env = pure cl ∧ (∀ x c, cl.lookup x = some c → env.cells.lookup x = some c) ∧ ∀ x, (x, NameKind.free) ∈ scope.names → ∃ c, cl.lookup x = some c := by
 have go : ∀ (names : List (Str × NameKind)) (cs : List (Str × Addr)), (∀ x ∈ names, x.2 = .free → ∃ c, env.cells.lookup x.1 = some c) → (∀ x c, cs.lookup x = some c → env.cells.lookup x = some c) →
   ∃ cl, (forIn names cs (fun (x : Str × NameKind) (r : List (Str × Addr)) => (if (x.2 == NameKind.free) = true then (do let a ← cellOf env x.1; pure (ForInStep.yield ((x.1, a) :: r))) else pure (ForInStep.yield r) : Sem (ForInStep (List (Str × Addr)))))) = pure cl ∧
    (∀ x c, cl.lookup x = some c → env.cells.lookup x = some c) ∧ (∀ x c, cs.lookup x = some c → ∃ c', cl.lookup x = some c') ∧ ∀ x, (x, NameKind.free) ∈ names → ∃ c, cl.lookup x = some c := by
  intro names
  induction names with
  | nil => intro cs _ h; exact ⟨cs, rfl, h, fun x c e => ⟨c, e⟩, fun x hx => nomatch hx⟩
  | cons y r ih =>
   intro cs hf h
   obtain ⟨n, k⟩ := y
   have hr : ∀ x ∈ r, x.2 = .free → ∃ c, env.cells.lookup x.1 = some c := fun x hx => hf x (List.mem_cons_of_mem _ hx)
   by_cases hk : k = .free
   ·subst hk
    obtain ⟨c, hc⟩ := hf (n, .free) List.mem_cons_self rfl
    have h2 : ∀ x c', ((n, c) :: cs).lookup x = some c' → env.cells.lookup x = some c' := fun x c' e => by
     rw [List.lookup_cons] at e
     cases hx : x == n with
     | true =>
      rw [hx] at e
      have : x = n := eq_of_beq hx
      cases e
      rw [this]; exact hc
     | false => rw [hx] at e; exact h x c' e
    obtain ⟨cl, e1, e2, e3, e4⟩ := ih ((n, c) :: cs) hr h2
    refine ⟨cl, ?_, e2, fun x c' e => ?_, fun x hx => ?_⟩
    ·rw [List.forIn_cons]
     have : cellOf env n = pure c := by unfold cellOf; rw [hc]
     simp only [beq_self_eq_true, if_true, this, pure_bind]
     exact e1
    ·cases hx : x == n with
     | true => exact e3 x c (by rw [List.lookup_cons, hx])
     | false => exact e3 x c' (by rw [List.lookup_cons, hx]; exact e)
    ·rcases List.mem_cons.mp hx with z | z
     ·cases z
      exact e3 n c (by rw [List.lookup_cons, beq_self_eq_true])
     ·exact e4 x z
   ·obtain ⟨cl, e1, e2, e3, e4⟩ := ih cs hr h
    refine ⟨cl, ?_, e2, e3, fun x hx => ?_⟩
    ·rw [List.forIn_cons]
     have hb : (k == NameKind.free) = false := by simpa using hk
     simp only [hb, Bool.false_eq_true, if_false, pure_bind]
     exact e1
    ·rcases List.mem_cons.mp hx with z | z
     ·cases z; exact absurd rfl hk
     ·exact e4 x z
 obtain ⟨cl, e1, e2, _, e4⟩ := go scope.names [] hf (fun x c e => by simp at e)
 refine ⟨cl, ?_, e2, e4⟩
 unfold closureFor
 first
  | (rw [e1]; rfl)
  | (simp only [e1]; rfl)
  | simp [e1]
theorem relabel_free {env : Env} : ∀ {names : List (Str × NameKind)} {x : Str}, names.lookup x = some .free →
  (names.map fun (n, k) => if (k == NameKind.free && env.scope.kind == .function && env.kindOf n == some .cell) then (n, NameKind.cell) else (n, k)).lookup x = some .cell ∨
  (names.map fun (n, k) => if (k == NameKind.free && env.scope.kind == .function && env.kindOf n == some .cell) then (n, NameKind.cell) else (n, k)).lookup x = some .free
 | [], _, h => by simp at h
 | (n, k) :: r, x, h => by
  have ih := @relabel_free env r x
  show List.lookup x ((if (k == NameKind.free && env.scope.kind == .function && env.kindOf n == some .cell) = true then (n, NameKind.cell) else (n, k)) :: _) = _ ∨ List.lookup x ((if (k == NameKind.free && env.scope.kind == .function && env.kindOf n == some .cell) = true then (n, NameKind.cell) else (n, k)) :: _) = _
  cases hx : x == n with
  | true =>
   simp only [List.lookup_cons, hx] at h
   cases h
   by_cases hc : (NameKind.free == NameKind.free && env.scope.kind == .function && env.kindOf n == some .cell) = true
   ·rw [if_pos hc]; left; rw [List.lookup_cons, hx]
   ·rw [if_neg hc]; right; rw [List.lookup_cons, hx]
  | false =>
   simp only [List.lookup_cons, hx] at h
   by_cases hc : (k == NameKind.free && env.scope.kind == .function && env.kindOf n == some .cell) = true
   ·rw [if_pos hc]; simp only [List.lookup_cons, hx]; exact ih h
   ·rw [if_neg hc]; simp only [List.lookup_cons, hx]; exact ih h
theorem relabel_back {env : Env} : ∀ {names : List (Str × NameKind)} {x : Str}, 
    ((names.map fun (n, k) => if (k == NameKind.free && env.scope.kind == .function && env.kindOf n == some .cell) then (n, NameKind.cell) else (n, k)).lookup x = some .cell ∨
     (names.map fun (n, k) => if (k == NameKind.free && env.scope.kind == .function && env.kindOf n == some .cell) then (n, NameKind.cell) else (n, k)).lookup x = some .free) →
    (x, NameKind.free) ∈ names ∨ (x, NameKind.cell) ∈ names
  | [], _, h => by simp at h
  | (n, k) :: r, x, h => by
    have ih := @relabel_back env r x
    replace h : List.lookup x ((if (k == NameKind.free && env.scope.kind == .function && env.kindOf n == some .cell) = true then (n, NameKind.cell) else (n, k)) :: _) = _ ∨ List.lookup x ((if (k == NameKind.free && env.scope.kind == .function && env.kindOf n == some .cell) = true then (n, NameKind.cell) else (n, k)) :: _) = _ := h
    cases hx : x == n with
    | true =>
      have e : x = n := eq_of_beq hx
      subst e
      by_cases hc : (k == NameKind.free && env.scope.kind == .function && env.kindOf x == some .cell) = true
      · have : k = .free := by
          simp only [Bool.and_eq_true] at hc
          exact eq_of_beq hc.1.1
        subst this
        exact .inl List.mem_cons_self
      · rw [if_neg hc] at h
        simp only [List.lookup_cons, hx, Option.some.injEq] at h
        rcases h with h | h
        · subst h; exact .inr List.mem_cons_self
        · subst h; exact .inl List.mem_cons_self
    | false =>
      have h' : _ := h
      by_cases hc : (k == NameKind.free && env.scope.kind == .function && env.kindOf n == some .cell) = true
      · rw [if_pos hc] at h; simp only [List.lookup_cons, hx] at h
        rcases ih h with z | z
        · exact .inl (List.mem_cons_of_mem _ z)
        · exact .inr (List.mem_cons_of_mem _ z)
      · rw [if_neg hc] at h; simp only [List.lookup_cons, hx] at h
        rcases ih h with z | z
        · exact .inl (List.mem_cons_of_mem _ z)
        · exact .inr (List.mem_cons_of_mem _ z)
section
variable {X : Cx} {pins : List (Addr × Obj)} {σ : St} {H2 : Hp} {s2 : Shared} {scope : Scope} {loc : List Str} {frees : List (Str × Nat)} {ns : List (Str × NameKind)} {N : List Str} {fp : List Addr} {cl : List (Str × Addr)}
theorem comp_start (I2 : Inv X pins σ H2 s2) (hns : X.env.scope.names = ns) (hN : X.N = N) (hk : scope.kind = .function) (ok : CompOk ns N scope frees) (f2 : ∀ b ∈ fp, FpOk X pins H2 b) (hlive : ∀ b ∈ fp, ∃ o, s2.heap.get? b = some o)
  (hc1 : ∀ x c, cl.lookup x = some c → X.env.cells.lookup x = some c) (hc2 : ∀ x, (x, NameKind.free) ∈ scope.names → ∃ c, cl.lookup x = some c)
  {C : Addr} {h4 : Heap} {tk : Nat} (hC : C = s2.heap.objs.size + 1) (hnsC : ∃ m, h4.Ns C m) (hacc : h4.get? s2.heap.objs.size = some { cls := .type "list", dict := none, data := .seq ([] : List Value).toArray })
  (hkeep : ∀ b o, s2.heap.get? b = some o → h4.get? b = some o) :
  Inv (compCx X (loc ++ frees.map (·.1)) scope ⟨cl, C, s2, H2, fp, X.pn ++ pins⟩) [] (σC loc.length frees σ) (upd H2 s2.heap.objs.size (.lst [])) { s2 with heap := h4, toks := tk } := by
 have below : ∀ {b : Addr} {o : Obj}, s2.heap.get? b = some o → b ≠ C := fun {b o} e z => by
  have := Heap.lt_size e
  rw [z, hC] at this
  exact Nat.lt_irrefl _ (Nat.lt_of_succ_lt this)
 have hl : H2 s2.heap.objs.size = none := I2.hok.fresh (Nat.le_refl _)
 have hCn : H2 C = none := I2.hok.fresh (by rw [hC]; exact Nat.le_succ _)
 have cne : ∀ x c, X.env.cells.lookup x = some c → ∃ o v, s2.heap.get? c = some o ∧ o.data = .cell v := fun x c e => by
  obtain ⟨v, o, ho, hd⟩ := I2.cell x c e
  exact ⟨o, v, ho, hd⟩
 obtain ⟨mC, hmC⟩ := hnsC
 have hCl : C ≠ s2.heap.objs.size := by rw [hC]; exact Nat.succ_ne_self _
 refine ⟨⟨I2.ok.mod, hk, I2.ok.glob, I2.ok.blt, ?_, fun x y c h1 h2 => I2.ok.inj x y c (hc1 x c h1) (hc1 y c h2), fun x hx => ?_, fun x c h => (Bool.false_ne_true h).elim, I2.ok.hd, I2.ok.frames, .inl rfl, fun b hb => ⟨?_, fun x c e z => ?_⟩, I2.bs, Nat.le_trans I2.ok.bsz I2.sz, fun b o e hb => ?_, fun b hb hfs => ?_, I2.stack, I2.stkFree⟩,
  rfl, I2.bare, ?_, ⟨mC, hmC, fun i x v h1 h2 h3 => ?_⟩, fun x c e => ?_, ?_, fun x c e => ?_, fun p hp => ?_, ?_, ?_⟩
 ·show s2.heap.objs.size ≤ C
  rw [hC]; exact Nat.le_succ _
 ·-- has
  have hx' : (relabel scope X.env).names.lookup x = some .cell ∨ (relabel scope X.env).names.lookup x = some .free := hx
  rcases relabel_back hx' with z | z
  ·exact hc2 x z
  ·exact absurd rfl (ok.1 _ z).1
 ·obtain ⟨o, ho⟩ := hlive b hb
  exact below ho
 ·exact (f2 b hb).2.2.2.2.1 x c (hc1 x c e) z
 ·rcases (f2 b hb).2.2.2.1 with z | z
  ·exact I2.ok.noex b o e z
  ·exact absurd (Nat.lt_of_lt_of_le (Heap.lt_size (I2.ok.bs b o e).1) z) (Nat.lt_irrefl _)
 ·rcases List.mem_cons.mp (I2.stkSub b hfs) with z | z
  ·exact (f2 b hb).2.1 z
  ·exact (f2 b hb).2.2.1 z
 ·exact Un.laid hkeep (Nat.le_refl _) hl
 ·-- loc
  have hi : ¬ i < loc.length := fun hlt => by
   unfold σC at h2
   rw [List.getElem?_append_left (by simpa using hlt), List.getElem?_replicate] at h2
   simp [hlt] at h2
  have h2' : (frees[i - loc.length]?).map (fun p => (σ[p.2]?).join) = some (some v) := by
   unfold σC at h2
   rw [List.getElem?_append_right (by simpa using hi), List.length_replicate, List.getElem?_map] at h2
   exact h2
  have h1' : (frees[i - loc.length]?).map (·.1) = some x := by
   have h1 : (loc ++ frees.map (·.1))[i]? = some x := h1
   rw [List.getElem?_append_right (by omega), List.getElem?_map] at h1
   exact h1
  cases ep : frees[i - loc.length]? with
  | none => rw [ep] at h1'; simp at h1'
  | some p =>
   rw [ep] at h1' h2'
   simp only [Option.map_some, Option.some.injEq] at h1' h2'
   obtain ⟨q1, q2, q3⟩ := ok.2 p (List.mem_of_getElem? ep)
   have hσ : σ[p.2]? = some (some v) := by
    cases e : σ[p.2]? with
    | none => rw [e] at h2'; simp at h2'
    | some o => rw [e] at h2'; simp at h2'; rw [h2']
   have vis : Vis X.env.scope p.1 := by
    show _ ∨ _
    rw [hns]; rcases q3 with z | z
    ·exact .inr (.inl z)
    ·exact .inr (.inr z)
   obtain ⟨m, hn, hlk⟩ := I2.loc
   obtain ⟨u, ru, lk⟩ := hlk p.2 p.1 v (by rw [hN]; exact q1) hσ vis
   refine ⟨u, ru, .inr ?_⟩
   rw [← h1']
   rcases lk with ⟨z, _⟩ | ⟨_, c, ec, hcell⟩
   ·have z' : X.env.scope.names.lookup p.1 = some .local := z
    rw [hns] at z'
    rcases q3 with y | y <;> rw [z'] at y <;> cases y
   ·obtain ⟨c', hc'⟩ := hc2 p.1 (PySem.mem_of_lookup q2)
    have : c' = c := by have := hc1 _ _ hc'; rw [ec] at this; exact (Option.some.inj this).symm
    subst this
    refine ⟨relabel_free q2, c', hc', ?_⟩
    obtain ⟨o, ho, hd⟩ := hcell
    exact ⟨o, hkeep _ _ ho, hd⟩
 ·obtain ⟨o, v, ho, hd⟩ := cne x c (hc1 x c e)
  exact ⟨v, o, hkeep _ _ ho, hd⟩
 ·show upd H2 _ _ C = none
  rw [upd_ne hCl]; exact hCn
 ·obtain ⟨o, v, ho, hd⟩ := cne x c (hc1 x c e)
  have : c ≠ s2.heap.objs.size := Nat.ne_of_lt (Heap.lt_size ho)
  rw [upd_ne this]
  exact I2.freeC x c (hc1 x c e)
 ·have hp' : p ∈ X.pn ++ pins := by
   rcases List.mem_append.mp hp with z | z
   ·exact z
   ·exact absurd z (by simp)
  obtain ⟨e, n, ne, nf, d⟩ := I2.pin p hp'
  refine ⟨hkeep _ _ e, ?_, below e, fun z => ?_, d⟩
  ·rw [upd_ne (Nat.ne_of_lt (Heap.lt_size e))]; exact n
  ·rcases List.mem_cons.mp (I2.stkSub p.1 z) with y | y
   ·exact ne y
   ·exact nf y
 ·exact I2.hok.laid hkeep (Nat.le_refl _) ⟨by simp, [], _, .nil, hacc⟩
 ·show (σC loc.length frees σ).length = (loc ++ frees.map (·.1)).length
  unfold σC
  simp
theorem comp_back {C : Addr} {H' : Hp} {s' : Shared} {σ' : St} {h' : Heap} {pl : List (Addr × Obj)} (I2 : Inv X pins σ H2 s2) (f2 : ∀ b ∈ fp, FpOk X pins H2 b) (hC : C = s2.heap.objs.size + 1)
  (J : Inv (compCx X N scope ⟨cl, C, s2, H2, fp, pl⟩) [] σ' H' s') (hs : Heap.SameBut C s'.heap h') : Inv X pins σ H' { s' with heap := h' } := by
 have I3 : Inv X pins σ H' s' := I2.call' (ch := fp) J.os J.base J.hok J.bare fun b hb => ⟨(f2 b hb).2.2.2.1, (f2 b hb).2.1, (f2 b hb).2.2.2.2.1, (f2 b hb).2.2.2.2.2⟩
 refine I3.turned (it := C) (t' := s'.toks) (fun b o hb e => (hs.2 b hb).trans e) J.free ?_ (.inr ?_) (fun x c e z => ?_) fun p hp z => ?_
 ·intro z
  have := I2.lt
  rw [← z, hC] at this; exact Nat.lt_irrefl _ (Nat.lt_of_succ_lt this)
 ·rw [hC]; exact Nat.le_trans I2.sz (Nat.le_succ _)
 ·obtain ⟨v, q⟩ := I2.cell x c e
  have := q.lt
  rw [z, hC] at this; exact Nat.lt_irrefl _ (Nat.lt_of_succ_lt this)
 ·have := Heap.lt_size (I2.pin p hp).1
  rw [z, hC] at this; exact Nat.lt_irrefl _ (Nat.lt_of_succ_lt this)
end
end L2
namespace L2
open PySem PySem.Spec PyProof.Rows
noncomputable abbrev TC := St → Hp → (St → Hp → Prop) → Prop
noncomputable def tForJ (J : It) (g : TG) (tb : TS) (D : Ends) (σ : St) (H : Hp) : Prop := ∃ W : Nat → Nat → St → Hp → Prop, (∃ m, W 0 m σ H) ∧ ∀ i m σ H, W i m σ H →
 (J.stop i H ∧ D.nx σ H) ∨ (J.go i H ∧ ∃ N : St → Hp → Prop, (∀ σ' H', N σ' H' → ∃ m', m' < m ∧ W (i + 1) m' σ' H') ∧ ∀ x H', J.yld i H x H' → g x σ H' fun σ2 H2 => tb { D with nx := N, ct := N, bk := D.nx } σ2 H2)
noncomputable def eC (Q : St → Hp → Prop) : Ends := { nx := Q, rt := fun _ _ => False }
noncomputable def tBodyC (tt : TT) (tb : TC) : TS := fun D σ H => tt σ H fun b H1 => if b = true then tb σ H1 D.nx else D.nx σ H1
noncomputable def tEmit (l : Addr) (te : TE) : TC := fun σ H Q => te σ H fun v H1 => ∃ xs, H1 l = some (.lst xs) ∧ xs.length < sizeLine ∧ Q σ (upd H1 l (.lst (xs ++ [v])))
noncomputable def tNest (wi : TI) (g : TG) (tt : TT) (tb : TC) : TC := fun σ H Q => wi σ H fun J H1 => tForJ J g (tBodyC tt tb) (eC Q) σ H1
noncomputable def tComp1 (wi : TI) (g : CompZ → TG) (tt : CompZ → TT) (te : CompZ → TE) (n : Nat) (frees : List (Str × Nat)) : TE := fun σ H Q => wi σ H fun J H1 => ∀ (Z : CompZ) (l : Addr), H1 l = none →
 tForJ J (g Z) (tBodyC (tt Z) (tEmit l (te Z))) (eC fun _ H' => Q (.ref l) H') (σC n frees σ) (upd H1 l (.lst []))
noncomputable def tComp2 (wi : TI) (g : CompZ → TG) (tt : CompZ → TT) (wi2 : CompZ → TI) (g2 : CompZ → TG) (tt2 : CompZ → TT) (te : CompZ → TE) (n : Nat) (frees : List (Str × Nat)) : TE := fun σ H Q => wi σ H fun J H1 => ∀ (Z : CompZ) (l : Addr), H1 l = none →
 tForJ J (g Z) (tBodyC (tt Z) (tNest (wi2 Z) (g2 Z) (tt2 Z) (tEmit l (te Z)))) (eC fun _ H' => Q (.ref l) H') (σC n frees σ) (upd H1 l (.lst []))
noncomputable def testsOf (ifs : List Expr) (env : Env) : Sem Bool := forIn ifs true fun c r => if r = true then do let ok ← isTrue c env (eval c env); pure (ForInStep.yield ok) else pure (ForInStep.yield r)
noncomputable def PTs (Y : Cx) (ifs : List Expr) (t : TT) : Prop := ∀ (pins : List (Addr × Obj)) (s : Shared) (σ : St) (H : Hp) (Q : Bool → Hp → Prop), Inv Y pins σ H s → t σ H Q →
 wpAny (model Y.prog Y.w) Y.A (testsOf ifs Y.env) (TP Y pins σ Q) Y.xe s
noncomputable def tAll : TT := fun _ H Q => Q true H
theorem pts_nil {Y : Cx} : PTs Y [] tAll := fun pins s σ H Q I h => wpAny_tests_nil ⟨H, I, h⟩
theorem pts_one {Y : Cx} {c : Expr} {t : TT} (hc : PT Y c t) : PTs Y [c] t := fun pins s σ H Q I h => wpAny_tests_one (hc pins s σ H Q I h)
noncomputable def PB (Y : Cx) (tail : (Unit → Sem Fin) → Sem Fin) (r : TC) : Prop := ∀ (pins : List (Addr × Obj)) (s : Shared) (σ : St) (H : Hp) (Q : St → Hp → Prop) (Q' : Fin → Shared → Prop) (k : Unit → Sem Fin), Inv Y pins σ H s → r σ H Q →
 (∀ σ' H' s', Inv Y pins σ' H' s' → Q σ' H' → wpAny (model Y.prog Y.w) Y.A (k ()) Q' (fun _ _ => False) s') → wpAny (model Y.prog Y.w) Y.A (tail k) Q' (fun _ _ => False) s
theorem nox_of {α : Type} {M : Model} {A : Around} {t : Sem α} {Q : α → Shared → Prop} {E E' : Value → Shared → Prop} {s : Shared} (h : wpAny M A t Q E s) (hx : E = fun _ _ => False) : wpAny M A t Q E' s := by
 subst hx
 exact wpAny_mono h (fun _ _ q => q) fun _ _ z => z.elim
noncomputable def tailEmit (elt : Expr) (acc : Value) (env : Env) (k : Unit → Sem Fin) : Sem Fin := (eval elt env >>= fun x => call (.builtin "list.append") [acc, x] >>= fun _ => pure ()) >>= k
theorem pb_emit {Y : Cx} {elt : Expr} {te : TE} {l : Addr} (hx : Y.xe = fun _ _ => False) (he : PE Y elt te) : PB Y (tailEmit elt (.ref l) Y.env) (tEmit l te) := by
 intro pins s σ H Q Q' k I h hk
 refine wpAny_bind (wpAny_bind (thn (nox_of (he pins s σ H _ I h) hx) fun v s1 ⟨x, H1, I1, r1, q1⟩ => ?_))
 obtain ⟨xs, e, hz, q⟩ := q1
 refine wpAny_bind (thn (nox_of (mt_append pins s1 σ H1 (.ref l) [x] (.ref l) [v] (fun _ H2 => Q σ H2) I1 rfl (.cons r1 .nil) ⟨l, xs, x, rfl, rfl, e, hz, q⟩) hx) fun u s2 ⟨y, H2, I2, r2, q2⟩ => ?_)
 exact wpAny_pure (hk σ H2 s2 I2 q2)
noncomputable def turnOf (e : Expr) (d : Nat) (it acc : Value) (env : Env) (tg iter : Expr) (ifs : List Expr) (tail : (Unit → Sem Fin) → Sem Fin) : Sem Fin :=
 standAt iter.pos >>= fun _ => pyNext it >>= fun r => match r with
  | none => pure (.done .next)
  | some v => letOwnedTupleGo tg it v >>= fun _ => assign tg env v >>= fun _ => testsOf ifs env >>= fun ok =>
   if ok = true then tail (fun _ => again (.compLoop e d it acc env)) else again (.compLoop e d it acc env)
theorem turn_1 (elt tg iter : Expr) (ifs : List Expr) (scope : Scope) (pos : Pos) (it acc : Value) (env : Env) :
  compTurn (.ListComp elt [⟨tg, iter, ifs, 0⟩] scope pos) 0 it acc env = turnOf (.ListComp elt [⟨tg, iter, ifs, 0⟩] scope pos) 0 it acc env tg iter ifs (tailEmit elt acc env) := by rfl
theorem turn_2b (elt tg iter : Expr) (ifs : List Expr) (g : Comprehension) (scope : Scope) (pos : Pos) (it acc : Value) (env : Env) :
  compTurn (.ListComp elt [g, ⟨tg, iter, ifs, 0⟩] scope pos) 1 it acc env = turnOf (.ListComp elt [g, ⟨tg, iter, ifs, 0⟩] scope pos) 1 it acc env tg iter ifs (tailEmit elt acc env) := by rfl
noncomputable def tailNest (e : Expr) (iter : Expr) (acc : Value) (env : Env) (k : Unit → Sem Fin) : Sem Fin :=
 eval iter env >>= fun x => standAt iter.pos >>= fun _ => foldedSetIterable iter env x >>= fun x => holding [x] (pyIter x) >>= fun i => runOwn (.compStart e 1 i acc env) env >>= fun _ => k ()
theorem turn_2a (elt tg iter tg2 iter2 : Expr) (ifs ifs2 : List Expr) (scope : Scope) (pos : Pos) (it acc : Value) (env : Env) :
  compTurn (.ListComp elt [⟨tg, iter, ifs, 0⟩, ⟨tg2, iter2, ifs2, 0⟩] scope pos) 0 it acc env = turnOf (.ListComp elt [⟨tg, iter, ifs, 0⟩, ⟨tg2, iter2, ifs2, 0⟩] scope pos) 0 it acc env tg iter ifs
   (tailNest (.ListComp elt [⟨tg, iter, ifs, 0⟩, ⟨tg2, iter2, ifs2, 0⟩] scope pos) iter2 acc env) := by rfl
section
variable {Y : Cx}
theorem comp_loop {elt tg iter : Expr} {gens : List Comprehension} {scope : Scope} {pos : Pos} {d : Nat} {ifs : List Expr} {it l : Addr} {tail : (Unit → Sem Fin) → Sem Fin} {fp : List Addr} {tn : Nat → Heap → Prop} {J : It} {g : TG} {tt : TT} {tb : TC} {pins : List (Addr × Obj)} {σ : St} {H : Hp} {s : Shared} {Q : St → Hp → Prop}
  (hx : Y.xe = fun _ _ => False) (hc : Y.calm = true) (heq : compTurn (.ListComp elt gens scope pos) d (.ref it) (.ref l) Y.env = turnOf (.ListComp elt gens scope pos) d (.ref it) (.ref l) Y.env tg iter ifs tail) (hg : PG Y tg g) (ht : PTs Y ifs tt) (hb : PB Y tail tb)
  (I : Inv Y pins σ H s) (T : Turn Y.prog Y.w Y.K tg J fp it tn) (st : tn 0 s.heap) (f2 : ∀ b ∈ fp, FpOk Y pins H b) (h : tForJ J g (tBodyC tt tb) (eC Q) σ H) :
  codeAny (model Y.prog Y.w) Y.A (.compLoop (.ListComp elt gens scope pos) d (.ref it) (.ref l) Y.env) (fun r s' => r = .ok .next ∧ ∃ σ' H', Inv Y pins σ' H' s' ∧ Q σ' H') s := by
 obtain ⟨W, ⟨m0, w0⟩, turn⟩ := h
 have stat : ∀ {H' : Hp}, (∀ b ∈ fp, H' b = none) → ∀ b ∈ fp, FpOk Y pins H' b := fun hn b hb => ⟨hn b hb, (f2 b hb).2⟩
 refine codeAny_loop rfl (fun n s' => ∃ i σ' H', Inv Y pins σ' H' s' ∧ tn i s'.heap ∧ (∀ b ∈ fp, H' b = none) ∧ W i n σ' H') (fun n s3 hI => ?_) m0 ⟨0, σ, H, I, st, fun b hb => (f2 b hb).1, w0⟩
 obtain ⟨i, σ3, H3, I3, st3, fr3, w3⟩ := hI
 show wpAny _ Y.A ((compTurn (.ListComp elt gens scope pos) d (.ref it) (.ref l) Y.env).onRaise (fun x => do noteFrame x Y.env; theTreesLotGoes x)) _ _ s3
 refine wpAny_noted ?_
 rw [heq]
 unfold turnOf
 refine wpAny_bind (wpAny_standAt (wpAny_bind ?_))
 rcases turn i n σ3 H3 w3 with ⟨stop, qn⟩ | ⟨go, N, hN, step⟩
 ·refine thn (T.done Y rfl rfl rfl hc i pins s3 σ3 H3 _ I3 (stat fr3) st3 stop) fun r s4 ⟨hr, I4⟩ => ?_
  subst hr
  exact wpAny_pure ⟨rfl, σ3, H3, I4, qn⟩
 ·refine thn (T.item Y rfl rfl rfl hc i pins s3 σ3 H3 _ I3 (stat fr3) st3 go) fun r s4 ⟨u, hr, h4⟩ => ?_
  subst hr
  refine wpAny_bind (thn h4 fun _ s5 ⟨x, H5, I5, r5, y5, st5, fr5⟩ => ?_)
  have I5' := I5.pinned (stat fr5) (T.obj _ _ st5)
  refine wpAny_bind (thn (nox_of (hg _ s5 σ3 H5 x u _ I5' r5 (step x H5 y5)) hx) fun _ s6 ⟨σ6, H6, I6, q6⟩ => ?_)
  refine wpAny_bind (thn (nox_of (ht _ s6 σ6 H6 _ I6 q6) hx) fun ok s7 ⟨H7, I7, q7⟩ => ?_)
  have again : ∀ {σ7 : St} {H7 : Hp} {s7 : Shared}, Inv Y (pins ++ pinsAt fp s5.heap) σ7 H7 s7 → N σ7 H7 → ∃ m, m < n ∧ ∃ i σ' H', Inv Y pins σ' H' s7 ∧ tn i s7.heap ∧ (∀ b ∈ fp, H' b = none) ∧ W i m σ' H' := fun {σ7 H7 s7} I7 n7 => by
   obtain ⟨m', hm, w7⟩ := hN σ7 H7 n7
   refine ⟨m', hm, i + 1, σ7, H7, I7.unpinned, T.keep _ _ _ st5 fun b hb o e => (I7.pin (b, o) (List.mem_append_right _ (List.mem_append_right _ (mem_pinsAt hb e)))).1, fun b hb => ?_, w7⟩
   obtain ⟨o, e, d⟩ := T.obj _ _ st5 b hb
   exact (I7.pin (b, o) (List.mem_append_right _ (List.mem_append_right _ (mem_pinsAt hb e)))).2.1
  cases ok with
  | false =>
   rw [if_neg Bool.false_ne_true] at q7 ⊢
   exact wpAny_pure ⟨rfl, again I7 q7⟩
  | true =>
   rw [if_pos rfl] at q7 ⊢
   exact nox_of (hb _ s7 σ6 H7 _ _ _ I7 q7 fun σ8 H8 s8 I8 q8 => wpAny_pure ⟨rfl, again I8 q8⟩) rfl
theorem start_1 {prog : Program} {w : World} {A : Around} {R : Result → Shared → Prop} {s : Shared} {elt target iter : Expr} {ifs : List Expr} {g : Comprehension} {scope : Scope} {pos : Pos} {it acc : Value} {env : Env}
  (h0 : codeAny (model prog w) A (.compLoop (.ListComp elt [g, ⟨target, iter, ifs, 0⟩] scope pos) 1 it acc env) R s)
  (h : wpAny (model prog w) A (pyIter it) (fun it' s' => codeAny (model prog w) A (.compLoop (.ListComp elt [g, ⟨target, iter, ifs, 0⟩] scope pos) 1 it' acc env) R s')
   (notedBy (model prog w) A env fun x s' => R (.error x) s') s) :
  codeAny (model prog w) A (.compStart (.ListComp elt [g, ⟨target, iter, ifs, 0⟩] scope pos) 1 it acc env) R s := by
 refine codeAny_of_tree ?_
 show wpAny _ _ ((compStart (.ListComp elt [g, ⟨target, iter, ifs, 0⟩] scope pos) 1 it acc env).onRaise (fun x => do noteFrame x env; standAt theWindowsPlace)) _ _ s
 refine wpAny_notedAt ?_
 unfold compStart
 show wpAny _ _ (ask >>= _) _ _ s
 refine wpAny_bind (wpAny_askSetting (wpAny_ite ?_))
 split
 ·first
   | exact wpAny_bind (wpAny_pure (wpAny_pure (And.intro rfl h0)))
   | exact wpAny_pure (And.intro rfl h0)
 ·first
   | exact wpAny_bind (wpAny_rule (wpAny_bind (wpAny_standAt (wpAny_bind (wpAny_mono h (fun it' s' h' => wpAny_pure (And.intro rfl h')) fun _ _ x => x)))))
   | (refine wpAny_bind (wpAny_rule ?_); show wpAny _ _ (standAt iter.pos >>= _) _ _ s; exact wpAny_bind (wpAny_standAt (wpAny_bind (wpAny_mono h (fun it' s' h' => wpAny_pure (And.intro rfl h')) fun _ _ x => x))))
theorem pb_nest {elt tg iter : Expr} {ifs : List Expr} {g1 : Comprehension} {scope : Scope} {pos : Pos} {l : Addr} {wi : TI} {g : TG} {tt : TT} {te : TE} (hx : Y.xe = fun _ _ => False) (hc : Y.calm = true) (hi : PI Y tg iter wi) (hg : PG Y tg g) (ht : PTs Y ifs tt) (he : PE Y elt te)
  (hs : ∀ x, foldedSetIterable iter Y.env x = pure x := by intro _; rfl) :
  PB Y (tailNest (.ListComp elt [g1, ⟨tg, iter, ifs, 0⟩] scope pos) iter (.ref l) Y.env) (tNest wi g tt (tEmit l te)) := by
 intro pins s σ H Q Q' k I h hk
 unfold tailNest
 refine wpAny_bind (thn (nox_of (hi pins s σ H _ I h) hx) fun v s1 h1 => ?_)
 refine wpAny_bind (wpAny_standAt (wpAny_bind (wpAny_of_eq (hs v) (wpAny_bind (wpAny_holding (thn (nox_of h1 hx) fun itv s2 h2 => ?_))))))
 obtain ⟨it, fp, tn, J, H2, e, I2, T, st2, f2, q2⟩ := h2
 subst e
 have L : codeAny (model Y.prog Y.w) Y.A (.compLoop (.ListComp elt [g1, ⟨tg, iter, ifs, 0⟩] scope pos) 1 (.ref it) (.ref l) Y.env) (fun r s' => r = .ok .next ∧ ∃ σ' H', Inv Y pins σ' H' s' ∧ Q σ' H') s2 :=
  comp_loop hx hc (turn_2b ..) hg ht (pb_emit hx he) I2 T st2 f2 q2
 refine wpAny_bind (wpAny_runOwn (codeAny_mono (start_1 L (T.self _ _ _ _ _ st2 L)) fun r s3 h3 => ?_))
 obtain ⟨rfl, σ3, H3, I3, q3⟩ := h3
 exact hk σ3 H3 s3 I3 q3
end
section
variable {X : Cx} {scope : Scope} {loc : List Str} {frees : List (Str × Nat)} {ns : List (Str × NameKind)} {N : List Str} {pos : Pos}
theorem comp_core {e : Expr} {gs : List Comprehension} {g0 : Comprehension} {wi : TI} {tg iter : Expr} {R : CompZ → Addr → It → St → Hp → (Hp → Prop) → Prop} {use : Option (Value → Sem Unit)} {Q : Value → Shared → Prop} {newPos : Pos}
  (hcl : clausesOf e = g0 :: gs) (hg0 : g0.iter = iter) (hi : PI X tg iter wi) (hns : X.env.scope.names = ns) (hN : X.N = N) (hk : scope.kind = .function) (ok : CompOk ns N scope frees)
  (hs : ∀ x, foldedSetIterable iter X.env x = pure x) {pins : List (Addr × Obj)} {s : Shared} {σ : St} {H : Hp} {QH : Addr → Hp → Prop} (I : Inv X pins σ H s)
  (h : wi σ H fun J H1 => ∀ (Z : CompZ) (l : Addr), H1 l = none → R Z l J (σC loc.length frees σ) (upd H1 l (.lst [])) (QH l))
  (block : ∀ (Z : CompZ) (l it : Addr) (fp : List Addr) (tn : Nat → Heap → Prop) (J : It) (H4 : Hp) (s4 : Shared) (σ4 : St), Z.fp = fp → Inv (compCx X (loc ++ frees.map (·.1)) scope Z) [] σ4 H4 s4 → Turn X.prog X.w X.K tg J fp it tn → tn 0 s4.heap →
   (∀ b ∈ fp, FpOk (compCx X (loc ++ frees.map (·.1)) scope Z) [] H4 b) → R Z l J σ4 H4 (QH l) →
   codeAny (model X.prog X.w) X.A (.compStart e 0 (.ref it) (.ref l) (compEnvC scope Z.cl Z.C X.env)) (fun r s' => r = .ok .next ∧ ∃ σ' H', Inv (compCx X (loc ++ frees.map (·.1)) scope Z) [] σ' H' s' ∧ QH l H') s4)
  (fin : ∀ (l C : Addr) (H' : Hp) (s' : Shared), (∃ m, s'.heap.Ns C m) → Inv X pins σ H' s' → H' C = none → X.s₀.heap.objs.size ≤ C → C ≠ X.env.locals → (∀ x c, X.env.cells.lookup x = some c → c ≠ C) → (∀ h', Heap.SameBut C s'.heap h' → Inv X pins σ H' { s' with heap := h' }) → (∀ p ∈ X.pn ++ pins, p.1 ≠ C) → QH l H' →
   compPost (model X.prog X.w) X.A X.xe use Q (.ref l) C (.ok .next) s') :
  wpAny (model X.prog X.w) X.A (comprehension e scope X.env newPos (newList []) false (eval iter X.env) use) Q X.xe s := by
 obtain ⟨cl, hclos, hc1, hc2⟩ := clos_ok (env := X.env) (scope := scope) fun x hx hf => by
  refine I.ok.has x.1 ?_
  have := (ok.1 x hx).2.2 hf
  rw [← hns] at this
  exact this
 have hs' : ∀ x, foldedSetIterable g0.iter X.env x = pure x := by rw [hg0]; exact hs
 refine wpAny_comprehension_free hcl hs' hclos hk (fun x hx hl => (ok.1 x hx).2.1 hl) (thn (hi pins s σ H _ I h) fun v s1 h1 => thn h1 fun itv s2 h2 => ?_)
 obtain ⟨it, fp, tn, J, H2, e2, I2, T, st2, f2, q2⟩ := h2
 subst e2
 refine wpAny_newObj_type (wpAny_newFunctionEnv (fun x hx => (ok.1 x hx).1) (by intro y hy; simp at hy) (fun h₁ hns₁ hsb₁ => ?_) hk)
 dsimp only at hns₁ hsb₁ ⊢
 have hsz : (s2.heap.push { cls := .type "list", dict := none, data := .seq ([] : List Value).toArray }).objs.size = s2.heap.objs.size + 1 := Heap.size_push ..
 generalize hCeq : (s2.heap.push { cls := .type "list", dict := none, data := .seq ([] : List Value).toArray }).objs.size = C at hns₁ hsb₁ hsz ⊢
 have keep : ∀ b o, s2.heap.get? b = some o → h₁.get? b = some o := fun b o e => hsb₁.extBut b o (by rw [hsz]; exact Nat.ne_of_lt (Nat.lt_succ_of_lt (Heap.lt_size e))) (Heap.get?_push_of_some _ (Heap.get?_push_of_some _ e))
 have hacc : h₁.get? s2.heap.objs.size = some { cls := .type "list", dict := none, data := .seq ([] : List Value).toArray } :=
  hsb₁.extBut _ _ (by rw [hsz]; exact Nat.ne_of_lt (Nat.lt_succ_self _)) (Heap.get?_push_of_some _ (Heap.get?_push_size _ rfl))
 have live : ∀ b ∈ fp, ∃ o, s2.heap.get? b = some o := fun b hb => let ⟨o, ho, _⟩ := T.obj _ _ st2 b hb; ⟨o, ho⟩
 have J0 := comp_start (scope := scope) (loc := loc) (frees := frees) (tk := s2.toks + ([] : List (Str × Value)).length) I2 hns hN hk ok f2 live hc1 hc2 hsz ⟨_, hns₁⟩ hacc keep
 have hln : H2 s2.heap.objs.size = none := I2.hok.fresh (Nat.le_refl _)
 have B := block ⟨cl, C, s2, H2, fp, X.pn ++ pins⟩ s2.heap.objs.size it fp tn J _ _ _ rfl J0 T (T.keep _ _ _ st2 fun b _ o e => keep b o e) (fun b hb => by
  obtain ⟨o, ho⟩ := live b hb
  obtain ⟨z0, z1, z2, z3, z4, z5⟩ := f2 b hb
  refine ⟨?_, ?_, fun z => ?_, .inl hb, fun x c e => z4 x c (hc1 x c e), fun p hp => z5 p ?_⟩
  ·rw [upd_ne (Nat.ne_of_lt (Heap.lt_size ho))]; exact z0
  ·show b ≠ C
   rw [hsz]; exact Nat.ne_of_lt (Nat.lt_succ_of_lt (Heap.lt_size ho))
  ·rcases List.mem_cons.mp (I2.stkSub b z) with y | y
   ·exact z1 y
   ·exact z2 y
  ·rcases List.mem_append.mp hp with y | y
   ·exact y
   ·exact absurd y (by simp)) (q2 _ _ hln)
 refine codeAny_mono B fun r s' hr => ?_
 obtain ⟨rfl, σ', H', J', q'⟩ := hr
 obtain ⟨m', hm', _⟩ := J'.loc
 have hCl : C ≠ X.env.locals := fun z => by
  have := I2.lt
  rw [← z, hsz] at this; exact Nat.lt_irrefl _ (Nat.lt_of_succ_lt this)
 have hCc : ∀ x c, X.env.cells.lookup x = some c → c ≠ C := fun x c e z => by
  obtain ⟨v, q⟩ := I2.cell x c e
  have := q.lt
  rw [z, hsz] at this; exact Nat.lt_irrefl _ (Nat.lt_of_succ_lt this)
 have hCp : ∀ p ∈ X.pn ++ pins, p.1 ≠ C := fun p hp z => by
  have := Heap.lt_size (I2.pin p hp).1
  rw [z, hsz] at this; exact Nat.lt_irrefl _ (Nat.lt_of_succ_lt this)
 exact fin s2.heap.objs.size C H' s' ⟨m', hm'⟩ (by have := comp_back I2 f2 hsz J' (Heap.SameBut.refl C s'.heap); exact this) J'.free (by rw [hsz]; exact Nat.le_trans I2.sz (Nat.le_succ _)) hCl hCc (fun h' hs => comp_back I2 f2 hsz J' hs) hCp q'
theorem pe_comp1 {elt tg iter : Expr} {ifs : List Expr} {wi : TI} {g : CompZ → TG} {tt : CompZ → TT} {te : CompZ → TE} (ns : List (Str × NameKind)) (N : List Str) (loc : List Str) (frees : List (Str × Nat)) (hc : X.calm = true) (hi : PI X tg iter wi)
  (hns : X.env.scope.names = ns) (hN : X.N = N) (hk : scope.kind = .function) (ok : CompOk ns N scope frees)
  (hg : ∀ Z, PG (compCx X (loc ++ frees.map (·.1)) scope Z) tg (g Z)) (ht : ∀ Z, PTs (compCx X (loc ++ frees.map (·.1)) scope Z) ifs (tt Z)) (he : ∀ Z, PE (compCx X (loc ++ frees.map (·.1)) scope Z) elt (te Z))
  (hs : ∀ x, foldedSetIterable iter X.env x = pure x := by intro _; rfl) : PE X (.ListComp elt [⟨tg, iter, ifs, 0⟩] scope pos) (tComp1 wi g tt te loc.length frees) := by
 intro pins s σ H Q I h
 rw [eval_ListComp]
 refine comp_core (e := .ListComp elt [⟨tg, iter, ifs, 0⟩] scope pos) (g0 := ⟨tg, iter, ifs, 0⟩) (gs := []) (tg := tg) (iter := iter) (loc := loc) (R := fun Z l J σ H QH => tForJ J (g Z) (tBodyC (tt Z) (tEmit l (te Z))) (eC fun _ H' => QH H') σ H) (use := none) (QH := fun l H' => Q (.ref l) H') rfl rfl hi hns hN hk ok hs I h ?_ ?_
 ·intro Z l it fp tn J H4 s4 σ4 hfp I4 T st4 f4 q4
  have L := comp_loop (Y := compCx X (loc ++ frees.map (·.1)) scope Z) rfl hc (turn_1 elt tg iter ifs scope pos (.ref it) (.ref l) _) (hg Z) (ht Z) (pb_emit rfl (he Z)) I4 T st4 f4 q4
  refine codeAny_mono (codeAny_compStart_list L (T.self _ _ _ _ _ st4 L)) fun r s' hr => ?_
  exact hr
 ·intro l C H' s' hm J' hn h1 h2 h3 h4 _ q'
  obtain ⟨m, hm⟩ := hm
  exact ⟨m, hm, fun h' hs' => ⟨.ref l, H', h4 h' hs', rfl, q'⟩⟩
theorem pe_comp2 {elt tg iter tg2 iter2 : Expr} {ifs ifs2 : List Expr} {wi : TI} {g g2 : CompZ → TG} {tt tt2 : CompZ → TT} {wi2 : CompZ → TI} {te : CompZ → TE} (ns : List (Str × NameKind)) (N : List Str) (loc : List Str) (frees : List (Str × Nat)) (hc : X.calm = true) (hi : PI X tg iter wi)
  (hns : X.env.scope.names = ns) (hN : X.N = N) (hk : scope.kind = .function) (ok : CompOk ns N scope frees)
  (hg : ∀ Z, PG (compCx X (loc ++ frees.map (·.1)) scope Z) tg (g Z)) (ht : ∀ Z, PTs (compCx X (loc ++ frees.map (·.1)) scope Z) ifs (tt Z))
  (hi2 : ∀ Z, PI (compCx X (loc ++ frees.map (·.1)) scope Z) tg2 iter2 (wi2 Z)) (hg2 : ∀ Z, PG (compCx X (loc ++ frees.map (·.1)) scope Z) tg2 (g2 Z)) (ht2 : ∀ Z, PTs (compCx X (loc ++ frees.map (·.1)) scope Z) ifs2 (tt2 Z))
  (he : ∀ Z, PE (compCx X (loc ++ frees.map (·.1)) scope Z) elt (te Z))
  (hs : ∀ x, foldedSetIterable iter X.env x = pure x := by intro _; rfl) (hs2 : ∀ (Z : CompZ) x, foldedSetIterable iter2 (compCx X (loc ++ frees.map (·.1)) scope Z).env x = pure x := by intro _ _; rfl) :
  PE X (.ListComp elt [⟨tg, iter, ifs, 0⟩, ⟨tg2, iter2, ifs2, 0⟩] scope pos) (tComp2 wi g tt wi2 g2 tt2 te loc.length frees) := by
 intro pins s σ H Q I h
 rw [eval_ListComp]
 refine comp_core (e := .ListComp elt [⟨tg, iter, ifs, 0⟩, ⟨tg2, iter2, ifs2, 0⟩] scope pos) (g0 := ⟨tg, iter, ifs, 0⟩) (gs := [⟨tg2, iter2, ifs2, 0⟩]) (tg := tg) (iter := iter) (loc := loc) (R := fun Z l J σ H QH => tForJ J (g Z) (tBodyC (tt Z) (tNest (wi2 Z) (g2 Z) (tt2 Z) (tEmit l (te Z)))) (eC fun _ H' => QH H') σ H) (use := none) (QH := fun l H' => Q (.ref l) H') rfl rfl hi hns hN hk ok hs I h ?_ ?_
 ·intro Z l it fp tn J H4 s4 σ4 hfp I4 T st4 f4 q4
  have L := comp_loop (Y := compCx X (loc ++ frees.map (·.1)) scope Z) rfl hc (turn_2a elt tg iter tg2 iter2 ifs ifs2 scope pos (.ref it) (.ref l) _) (hg Z) (ht Z) (pb_nest rfl hc (hi2 Z) (hg2 Z) (ht2 Z) (he Z) (hs2 Z)) I4 T st4 f4 q4
  refine codeAny_mono (codeAny_compStart_list L (T.self _ _ _ _ _ st4 L)) fun r s' hr => ?_
  exact hr
 ·intro l C H' s' hm J' hn h1 h2 h3 h4 _ q'
  obtain ⟨m, hm⟩ := hm
  exact ⟨m, hm, fun h' hs' => ⟨.ref l, H', h4 h' hs', rfl, q'⟩⟩
theorem ps_setC1 {i : Nat} {x : Str} {pos' apos : Pos} {elt tg iter : Expr} {ifs : List Expr} {wi : TI} {g : CompZ → TG} {tt : CompZ → TT} {te : CompZ → TE} (ns : List (Str × NameKind)) (N : List Str) (loc : List Str) (frees : List (Str × Nat)) (hc : X.calm = true) (hND : X.N.Nodup) (hix : X.N[i]? = some x) (hxl : X.env.scope.names.lookup x = some .local) (hi : PI X tg iter wi)
  (hns : X.env.scope.names = ns) (hN : X.N = N) (hk : scope.kind = .function) (ok : CompOk ns N scope frees)
  (hg : ∀ Z, PG (compCx X (loc ++ frees.map (·.1)) scope Z) tg (g Z)) (ht : ∀ Z, PTs (compCx X (loc ++ frees.map (·.1)) scope Z) ifs (tt Z)) (he : ∀ Z, PE (compCx X (loc ++ frees.map (·.1)) scope Z) elt (te Z))
  (hsw : swapsWith (.ListComp elt [⟨tg, iter, ifs, 0⟩] scope pos) (some (.Name x pos')) apos.line X.env = pure true := by rfl)
  (hs : ∀ x, foldedSetIterable iter X.env x = pure x := by intro _; rfl) : PS X (.Assign [.Name x pos'] (.ListComp elt [⟨tg, iter, ifs, 0⟩] scope pos) apos) (tAsg (tComp1 wi g tt te loc.length frees) (gName i)) := by
 intro pins s σ H D I h
 rw [exec_Assign_Name_used _ _ _ _ hsw]
 refine wpAny_bind (wpAny_standAt (wpAny_bind ?_))
 show wpAny _ X.A (do let _ ← comprehension (.ListComp elt [⟨tg, iter, ifs, 0⟩] scope pos) scope X.env _ (newList []) false (eval iter X.env) (some (assign (.Name x pos') X.env))) _ _ s
 refine wpAny_bind ?_
 have key := comp_core (X := X) (e := .ListComp elt [⟨tg, iter, ifs, 0⟩] scope pos) (g0 := ⟨tg, iter, ifs, 0⟩) (gs := []) (tg := tg) (iter := iter) (newPos := firstIterPos [⟨tg, iter, ifs, 0⟩] pos) (loc := loc) (R := fun Z l J σ H QH => tForJ J (g Z) (tBodyC (tt Z) (tEmit l (te Z))) (eC fun _ H' => QH H') σ H) (use := some (assign (.Name x pos') X.env)) (QH := fun l H' => D.nx (σ.set i (some (.ref l))) H') (Q := fun _ s' => SP X pins D .next s') rfl rfl hi hns hN hk ok hs I h ?_ ?_
 ·exact thn key fun _ s' hq => wpAny_pure (wpAny_pure hq)
 ·intro Z l it fp tn J H4 s4 σ4 hfp I4 T st4 f4 q4
  have L := comp_loop (Y := compCx X (loc ++ frees.map (·.1)) scope Z) rfl hc (turn_1 elt tg iter ifs scope pos (.ref it) (.ref l) _) (hg Z) (ht Z) (pb_emit rfl (he Z)) I4 T st4 f4 q4
  refine codeAny_mono (codeAny_compStart_list L (T.self _ _ _ _ _ st4 L)) fun r s' hr => ?_
  exact hr
 ·intro l C H' s' hm J' hn h1 h2 h3 h4 h5 q'
  obtain ⟨m, hm⟩ := hm
  show wpAny _ X.A (assign (.Name x pos') X.env (.ref l)) _ _ _
  refine wpAny_assign_Name (store_ok2 J' hND hix (.inl hxl) (v := .ref l) rfl (fun s'' I'' hsb => ?_) (.inr hxl))
  obtain ⟨a, hsb, ha⟩ := hsb
  have haC : C ≠ a := by
   rcases ha with z | z
   ·rw [z]; exact h2
   ·exact fun y => h3 x a z y.symm
  refine ⟨m, hm.sameBut hsb haC, fun h' hs' => ⟨_, H', ?_, q'⟩⟩
  exact I''.turned (it := C) (t' := s''.toks) (fun b o hb e => (hs'.2 b hb).trans e) hn h2 (.inr h1) h3 h5
end
end L2
namespace PySem
open Sem (wp)
open AutoSeq1 (wpAny_loadPart')
section
variable {prog : Program} {w : World} {A : Around} {E : Value → Shared → Prop} {s : Shared}
theorem nextOf_tuple_item {it l : Addr} {i : Nat} {items} {x : Value} {Q : Value → Shared → Prop} (hit : s.heap.IsTupleIter it l i)
  (hl : s.heap.IsTuple l items) (hx : items[i]? = some x)
  (hQ : ∀ h', h'.IsTupleIter it l (i + 1) → Heap.SameBut it s.heap h' → Q x { s with heap := h' }) :
  wpAny (model prog w) A (Builtin.SmallTypes.nextOf (.ref it)) Q E s := by
 obtain ⟨o, ho, hc, hd⟩ := id hit
 obtain ⟨ol, hol, _, nl, hdl⟩ := hl
 unfold Builtin.SmallTypes.nextOf
 refine wpAny_bind (wpAny_callSpecial?_slot (name := Str.ofString "__next__") hit.typeIs F.slot_tuple_iterator_next
  (wpAny_call_entry F.slot_tuple_iterator_next hit.typeIs F.entry_tuple_iterator_next ?_ (F.args_tuple_iterator_next_1 _)))
 show wpAny _ _ (field (.ref it) 0 >>= _) _ _ s
 refine wpAny_bind (wpAny_field ho hd (x := .ref l) rfl ?_)
 show wpAny _ _ (if (Value.ref l == Value.none) = true then _ else _) _ _ s
 rw [if_neg (show ¬ ((Value.ref l == Value.none) = true) from Bool.false_ne_true)]
 show wpAny _ _ (field (.ref it) 1 >>= _) _ _ s
 refine wpAny_bind (wpAny_field ho hd (x := .int i 0) rfl ?_)
 show wpAny _ _ (seqItems? (.ref l) >>= _) _ _ s
 refine wpAny_bind (wpAny_seqItems hol hdl ?_)
 simp only [Int.toNat_natCast, hx]
 refine wpAny_bind (wpAny_setField ho hd (by simp) (wpAny_pure ⟨x, rfl, wpAny_pure (hQ _ ?_ (Heap.SameBut.update ..))⟩))
 exact ⟨_, Heap.get?_update_self _ ho (Obj.isFreed_of_fields (Obj.data_mapFields hd _)), (Obj.cls_mapFields ..).trans hc, by
  rw [Obj.data_mapFields hd]; simp [rawInt]⟩
theorem nextOf_tuple_end {it l : Addr} {i : Nat} {items} {Q : Value → Shared → Prop} (hh : A.handled = none)
  (hit : s.heap.IsTupleIter it l i) (hl : s.heap.IsTuple l items) (hx : items[i]? = none)
  (hE : ∀ h' e, Heap.ExtBut it s.heap h' → (∃ o, h'.get? e = some o ∧ o.cls = .type "StopIteration") → E (.ref e) { s with heap := h' }) :
  wpAny (model prog w) A (Builtin.SmallTypes.nextOf (.ref it)) Q E s := by
 obtain ⟨o, ho, hc, hd⟩ := id hit
 obtain ⟨ol, hol, _, nl, hdl⟩ := hl
 unfold Builtin.SmallTypes.nextOf
 refine wpAny_bind (wpAny_callSpecial?_slot (name := Str.ofString "__next__") hit.typeIs F.slot_tuple_iterator_next
  (wpAny_call_entry F.slot_tuple_iterator_next hit.typeIs F.entry_tuple_iterator_next ?_ (F.args_tuple_iterator_next_1 _)))
 show wpAny _ _ (field (.ref it) 0 >>= _) _ _ s
 refine wpAny_bind (wpAny_field ho hd (x := .ref l) rfl ?_)
 show wpAny _ _ (if (Value.ref l == Value.none) = true then _ else _) _ _ s
 rw [if_neg (show ¬ ((Value.ref l == Value.none) = true) from Bool.false_ne_true)]
 show wpAny _ _ (field (.ref it) 1 >>= _) _ _ s
 refine wpAny_bind (wpAny_field ho hd (x := .int i 0) rfl ?_)
 show wpAny _ _ (seqItems? (.ref l) >>= _) _ _ s
 refine wpAny_bind (wpAny_seqItems hol hdl ?_)
 simp only [Int.toNat_natCast, hx]
 refine wpAny_bind (wpAny_rule (wpAny_bind (wpAny_setField ho hd (by simp) ?_)))
 show wpAny _ _ (newExc (.type "StopIteration") [] >>= _) _ _ _
 refine wpAny_bind ?_
 simp only [newExc, newTuple]
 refine wpAny_bind (wpAny_newObj_type ?_ (by size_fits))
 refine wpAny_bind (m := firstArgMember _ _) (wpAny_of_eq (a := Value.none) (by first | rfl | (simp only [firstArgMember]; rfl)) ?_)
 refine wpAny_newObj_type ?_ (by size_fits)
 simp only [raiseNew]
 refine wpAny_bind (wpAny_handled ?_)
 first | rw [show A.in1.handled = none from hh] | rw [hh]
 refine wpAny_bind (wpAny_pure (wpAny_throw ?_))
 exact hE _ _ (((Heap.SameBut.update ..).extBut.push _).push _) ⟨_, Heap.get?_push_size _ rfl, rfl⟩
end
theorem Draws.tuple {prog : Program} {w : World} {A : Around} (hh : A.handled = none) (it l : Addr) (hne : l ≠ it) (items : Array Value) :
  Draws prog w A it [it, l] items.size (fun i v => items[i]? = some v) (fun i h => h.IsTupleIter it l i ∧ h.IsTuple l items) where
 live := fun _ _ st => let ⟨o, ho, _⟩ := st.1; ⟨o, ho⟩
 frame := fun _ _ _ st hk => ⟨st.1.at fun o e => hk it (by simp) o e, let ⟨o, ho, r⟩ := st.2; ⟨o, hk l (by simp) o ho, r⟩⟩
 item := fun i s Q E hi st hQ => by
  refine nextOf_tuple_item st.1 st.2 (x := items[i]) (by simp [hi]) fun h' hit' hs' => ?_
  exact hQ _ h' s.toks (by simp [hi]) ⟨hit', let ⟨o, ho, r⟩ := st.2; ⟨o, (hs'.2 l hne).trans ho, r⟩⟩ hs'
 done := fun s Q E st hE => nextOf_tuple_end hh st.1 st.2 (by simp) hE
theorem meets_enumerate_newT (l : Addr) (items : Array Value) (n : Nat) (dct : Option Addr) (sl : Array (Option Value)) :
  Meets (Builtin.«enumerate.__new__» ⟨[.type "enumerate", .ref l], []⟩) (fun _ R s => s.heap.get? l = some { cls := .type "tuple", dict := dct, data := .seq items n, slots := sl } ∧
   R (.ok (.ret (.ref (s.heap.push { cls := .type "tuple_iterator", data := .fields #[.ref l, .int 0 0] }).objs.size)))
    { s with heap := (s.heap.push { cls := .type "tuple_iterator", data := .fields #[.ref l, .int 0 0] }).push { cls := .type "enumerate", data := .fields #[.none, .bool false, .ref s.heap.objs.size, rawInt 0, .none, .none] } }) :=
 .of_wp fun prog w A R s h => by
  obtain ⟨hp, g, d, tk, os⟩ := s; obtain ⟨hl, h⟩ := h
  have hsub := sub_enumerate
  have hL : Heap.IsTuple (Shared.heap ⟨hp, g, d, tk, os⟩) l items := ⟨_, hl, rfl, n, rfl⟩
  wp_walk using wpAny_loadPart' hl
  refine wpAny_stack_any fun st => wpAny_pure ?_
  split
  ·rename_i c _ _ _ _ _
   cases (c == Value.type "enumerate")
   ·wp_walk using wpAny_loadPart' hl, wpAny_pyIter_tuple hL
    exact ⟨_, rfl, h⟩
   ·wp_walk using wpAny_loadPart' hl, wpAny_pyIter_tuple hL
    exact ⟨_, rfl, h⟩
  ·wp_walk using wpAny_loadPart' hl, wpAny_pyIter_tuple hL
   exact ⟨_, rfl, h⟩
section
variable {prog : Program} {w : World} {A : Around} {E : Value → Shared → Prop} {s : Shared}
theorem call_enumerate_tuple {l : Addr} {items : Array Value} {Q : Value → Shared → Prop} (hL : s.heap.IsTuple l items)
  (h : ∀ h', IsEnum h' (s.heap.objs.size + 1) s.heap.objs.size 0 .none → h'.IsTupleIter s.heap.objs.size l 0 → h'.objs.size = s.heap.objs.size + 2 →
   (∀ b o, s.heap.get? b = some o → h'.get? b = some o) → Q (.ref (s.heap.objs.size + 1)) { s with heap := h' }) :
  wpAny (model prog w) A (call (.type "enumerate") [.ref l]) Q E s := by
 obtain ⟨⟨c, dct, dt, sl⟩, hl, hc, n, hd⟩ := hL
 replace hc : c = .type "tuple" := hc
 replace hd : dt = .seq items n := hd
 subst hc hd
 refine callType_new F.called_enumerate (by decide) (F.typeCall_enumerate_1 _) (F.newCall_enumerate_1 _) (fun obj => F.args_object_init_2 obj _) F.entry_enumerate_new
  (meets_enumerate_newT l items n dct sl) ⟨hl, ?_⟩
 have hz : (s.heap.push { cls := .type "tuple_iterator", data := .fields #[.ref l, .int 0 0] }).objs.size = s.heap.objs.size + 1 := Heap.size_push ..
 show _ ∧ _
 rw [hz]
 have he : IsEnum ((s.heap.push { cls := .type "tuple_iterator", data := .fields #[.ref l, .int 0 0] }).push
   { cls := .type "enumerate", data := .fields #[.none, .bool false, .ref s.heap.objs.size, rawInt 0, .none, .none] }) (s.heap.objs.size + 1) s.heap.objs.size 0 .none := by
  have := Heap.get?_push_size (s.heap.push { cls := .type "tuple_iterator", data := .fields #[.ref l, .int 0 0] })
   (o := { cls := .type "enumerate", data := .fields #[.none, .bool false, .ref s.heap.objs.size, rawInt 0, .none, .none] }) rfl
  rw [hz] at this; exact this
 refine ⟨⟨_, he, rfl⟩, h _ he ⟨_, Heap.get?_push_of_some _ (Heap.get?_push_size _ rfl), rfl, rfl⟩ (by rw [Heap.size_push, hz]) fun b o x => Heap.get?_push_of_some _ (Heap.get?_push_of_some _ x)⟩
end
end PySem
namespace PySem
open Sem (wp)
open Builtin
open AutoSeq1 (wpAny_loadPart')
namespace F
end F
section
variable {prog : Program} {w : World} {A : Around} {E : Value → Shared → Prop} {s : Shared} {a : Addr} {xs : Array Value} {k : Nat} {sl : Array (Option Value)}
end
end PySem
namespace PySem
open Sem (wp)
open Builtin
open AutoSeq1 (wpAny_loadPart')
section
variable {prog : Program} {w : World} {K : Type} [DecidableEq K] {knd : KeyKind prog w K} {A : Around} {E : Value → Shared → Prop} {R : Result → Shared → Prop}
end
end PySem
namespace L2
open PySem PySem.Spec PyProof.Rows
section
variable {X : Cx}
theorem call_isinst : CallR X (.builtin "isinstance") (fun xs H Q => ∃ x T t b, xs = [x, .ty T] ∧ TyOf X.K H x t ∧ PySem.W.kitOne X.K t (.type T) = some b ∧ Q (.bl b) H) := by
 intro pins s σ H xs us Q I r h
 obtain ⟨x, T, t, b, rfl, ty, e, q⟩ := h
 obtain ⟨u, w', rfl, rx, rT⟩ := vals2 r
 cases (show w' = Value.type T from rT)
 exact isinst_ok I rx ty e fun tk => ⟨.bl b, H, I.tok _, rfl, q⟩
theorem bools_of : ∀ {bs : List Bool} {us : List Value}, Vals (bs.map V.bl) us → LSm.BoolsAre us bs
 | [], _, .nil => .nil
 | b :: bs, _, .cons r t => by
  cases (show _ = Value.bool b from r)
  exact .cons b (bools_of t)
end
section
variable {X : Cx} {pins : List (Addr × Obj)} {σ : St} {H : Hp} {s : Shared}
theorem call_all (hc : X.calm = true) : CallR X (.builtin "all") (fun xs H Q => ∃ (p : Addr) (bs : List Bool), xs = [.ref p] ∧ SqL X.K H p (bs.map V.bl) ∧ Q (.bl (bs.all id)) H) := by
 intro pins s σ H xs us Q I r h
 obtain ⟨p, bs, rfl, hq, q⟩ := h
 obtain ⟨u, rfl, rx⟩ := vals1 r
 cases rx
 obtain ⟨its, rv, pl, hz⟩ := I.list hq
 have hb := bools_of rv
 have hlt : p < s.heap.objs.size := by obtain ⟨_, e, _⟩ := pl.isList; exact Heap.lt_size e
 refine call_all_walk (wpAny_pyIter_list pl.isList ?_)
 refine ⟨s.heap.objs.size, [s.heap.objs.size, p], [s.heap.objs.size], its.toArray.size, _, _, fun i => (bs[i]?).getD true, rfl, Walks.list (A := X.A.in1) (by simp [I.ok.hd hc]) _ p (Nat.ne_of_lt hlt) its.toArray, ⟨⟨_, Heap.get?_push_size _ rfl, rfl, rfl⟩, pl.isList.push _⟩, fun i v s' Q' E' hP hQ => ?_, fun h' tk hk => ?_⟩
 ·obtain ⟨b, e, rfl⟩ := hb.get i v (by simpa using hP)
  dsimp only at hQ; rw [e] at hQ
  exact wpAny_truthy_bool hQ
 ·have e : ((List.range its.toArray.size).all fun i => (bs[i]?).getD true) = bs.all id := by rw [List.size_toArray, hb.length, LSm.range_all]
  rw [e]
  exact ⟨.bl _, H, I.kept (h' := h') (t' := tk) (LSm.kept_iter hk), rfl, q⟩
theorem call_any (hc : X.calm = true) : CallR X (.builtin "any") (fun xs H Q => ∃ (p : Addr) (bs : List Bool), xs = [.ref p] ∧ SqL X.K H p (bs.map V.bl) ∧ Q (.bl (bs.any id)) H) := by
 intro pins s σ H xs us Q I r h
 obtain ⟨p, bs, rfl, hq, q⟩ := h
 obtain ⟨u, rfl, rx⟩ := vals1 r
 cases rx
 obtain ⟨its, rv, pl, hz⟩ := I.list hq
 have hb := bools_of rv
 have hlt : p < s.heap.objs.size := by obtain ⟨_, e, _⟩ := pl.isList; exact Heap.lt_size e
 refine call_any_walk (wpAny_pyIter_list pl.isList ?_)
 refine ⟨s.heap.objs.size, [s.heap.objs.size, p], [s.heap.objs.size], its.toArray.size, _, _, fun i => (bs[i]?).getD false, rfl, Walks.list (A := X.A.in1) (by simp [I.ok.hd hc]) _ p (Nat.ne_of_lt hlt) its.toArray, ⟨⟨_, Heap.get?_push_size _ rfl, rfl, rfl⟩, pl.isList.push _⟩, fun i v s' Q' E' hP hQ => ?_, fun h' tk hk => ?_⟩
 ·obtain ⟨b, e, rfl⟩ := hb.get i v (by simpa using hP)
  dsimp only at hQ; rw [e] at hQ
  exact wpAny_truthy_bool hQ
 ·have e : ((List.range its.toArray.size).any fun i => (bs[i]?).getD false) = bs.any id := by rw [List.size_toArray, hb.length, LSm.range_any]
  rw [e]
  exact ⟨.bl _, H, I.kept (h' := h') (t' := tk) (LSm.kept_iter hk), rfl, q⟩
theorem Inv.turnedL {fp : List Addr} {h' : Heap} {t' : Nat} (I : Inv X pins σ H s) (k : ∀ b o, b ∉ fp → s.heap.get? b = some o → h'.get? b = some o) (hf : ∀ b ∈ fp, FpOk X pins H b) : Inv X pins σ H { s with heap := h', toks := t' } := by
 have nfp : ∀ b u, H b = some u → b ∉ fp := fun b u e z => by rw [(hf b z).1] at e; cases e
 refine I.step (g' := s.gens) (d' := s.drawn) (ch := fp) (fun b hb => ⟨(hf b hb).2.2.2.1, (hf b hb).2.1, (hf b hb).2.2.2.2.1, (hf b hb).2.2.2.2.2⟩) (fun b o _ _ hc e _ => k b o hc e) (fun b o _ _ hc e _ => ⟨o.slots, k b o hc e⟩) (fun _ _ _ _ n => n) (fun b o hc e => ⟨o, k b o hc e⟩)
  (fun _ _ e => e) (fun _ _ _ e => e) (fun b ps e => ⟨#[], by rw [e]; simp⟩) (fun m hm => ?_) (fun b u e => ?_) I.bare
 ·obtain ⟨o, es, ep, ho, r⟩ := hm
  exact ⟨o, es, ep, k _ o (fun z => (hf _ z).2.1 rfl) ho, r⟩
 ·refine (I.hok b u e).stay (fun c v hc q => k c v ?_ q) (fun _ q => q) fun _ _ q => q
  rcases hc with z | z
  ·rw [z]; exact nfp b u e
  ·exact nfp c _ z
theorem Inv.turnLaid {fp : List Addr} {h' : Heap} {t' : Nat} {p : Addr} {o : HO} (I : Inv X pins σ H s) (k : ∀ b u, b ∉ fp → s.heap.get? b = some u → h'.get? b = some u) (hf : ∀ b ∈ fp, FpOk X pins H b) (hp : s.heap.objs.size ≤ p)
  (new : ObjOk X.prog X.w (upd H p o) h' p o) : Inv X pins σ (upd H p o) { s with heap := h', toks := t' } := by
 have nfp : ∀ b u, H b = some u → b ∉ fp := fun b u e z => by rw [(hf b z).1] at e; cases e
 have hn := I.hok.fresh hp
 have old : ∀ {b : Addr} {u : Obj}, s.heap.get? b = some u → b ≠ p := fun e => Nat.ne_of_lt (Nat.lt_of_lt_of_le (Heap.lt_size e) hp)
 refine I.step (g' := s.gens) (d' := s.drawn) (ch := fp) (fun b hb => ⟨(hf b hb).2.2.2.1, (hf b hb).2.1, (hf b hb).2.2.2.2.1, (hf b hb).2.2.2.2.2⟩) (fun b o _ _ hc e _ => k b o hc e) (fun b o _ _ hc e _ => ⟨o.slots, k b o hc e⟩) (fun b o _ e n => by rw [upd_ne (old e)]; exact n) (fun b o hc e => ⟨o, k b o hc e⟩)
  (fun b xs e => by rw [upd_ne (ne_of_none e hn)]; exact e) (fun b u xs e => by rw [upd_ne (ne_of_none e hn)]; exact e) (fun b ps e => ⟨#[], by rw [upd_ne (ne_of_none e hn), e]; simp⟩) (fun m hm => ?_) (fun b u e => ?_) I.bare
 ·obtain ⟨o, es, ep, ho, r⟩ := hm
  exact ⟨o, es, ep, k _ o (fun z => (hf _ z).2.1 rfl) ho, r⟩
 ·by_cases hb : b = p
  ·subst hb; rw [upd_same] at e; cases e; exact new
  ·rw [upd_ne hb] at e
   refine (I.hok b u e).stay (fun c v hc q => k c v ?_ q) (fun c q => by rw [upd_ne (ne_of_none q hn)]; exact q) fun c xs q => by rw [upd_ne (ne_of_none q hn)]; exact q
   rcases hc with z | z
   ·rw [z]; exact nfp b u e
   ·exact nfp c _ z
noncomputable def Ite (S : Hp → List V → Prop) : It :=
 ⟨fun i H => ∃ xs x, S H xs ∧ xs[i]? = some x, fun i H x H' => ∃ p y, x = .ref p ∧ H p = none ∧ H' = upd H p (.tup [.int i, y]) ∧ ∀ xs, S H xs → xs[i]? = some y, fun i H => ∃ xs, S H xs ∧ xs.length = i⟩
theorem turn_enumT {P : Program} {w : World} {K : PySem.W.Frag} {es : List Expr} {x1} {pos : Pos} (e it a : Addr) (hei : e ≠ it) :
  Turn P w K (.Tuple es x1 pos) (Ite fun H xs => SqT K H a xs) [e, it] e (fun i h => (∃ old, IsEnum h e it i old) ∧ h.IsTupleIter it a i ∧ a ≠ it ∧ a ≠ e) where
 mem := by simp
 obj := fun i h st b hb => by
  obtain ⟨⟨old, he⟩, ⟨o, e1, c, d⟩, _⟩ := st
  rcases List.mem_cons.mp hb with z | z
  ·subst z; exact ⟨_, he, fun v z => by cases z⟩
  ·have z' := List.mem_singleton.mp z
   subst z'; exact ⟨o, e1, fun v z => by rw [d] at z; cases z⟩
 keep := fun i h h' st k => ⟨let ⟨old, he⟩ := st.1; ⟨old, k e (by simp) _ he⟩, st.2.1.at fun o q => k it (by simp) o q, st.2.2⟩
 item := by
  intro X hP hw hK hc i pins s σ H E I hf st hg
  subst hP hw hK
  obtain ⟨⟨old, he⟩, hit, hai, hae⟩ := st
  obtain ⟨xs, x, hq, hx⟩ := hg
  obtain ⟨its, rv, p, hz⟩ := I.tuple hq
  obtain ⟨u, hu, ru⟩ := rv.get hx
  have hlt : i < its.toArray.size := by
   rw [List.size_toArray]; exact (List.getElem?_eq_some_iff.mp hu).1
  refine wpAny_pyNext_enum_itemD (Draws.tuple (A := X.A.in1) (by simp [I.ok.hd hc]) it a hai its.toArray) he ⟨hit, p⟩ hlt hei (by simp [hei, Ne.symm hae]) fun v h' tk hv ho hst' hT hsz hk => ?_
  have hv' : v = u := by
   have e1 : its[i]? = some v := by simpa using hv
   rw [hu] at e1; exact (Option.some.inj e1).symm
  subst hv'
  refine ⟨_, rfl, wpAny_letOwnedTupleGo_enum (s := { s with heap := h', toks := tk + 1 }) ho fun h2 he2 hs2 => ?_⟩
  have helt : e < s.heap.objs.size := Heap.lt_size he
  have hilt : it < s.heap.objs.size := by obtain ⟨_, q, _⟩ := hit; exact Heap.lt_size q
  have hTe : s.heap.objs.size ≠ e := Nat.ne_of_gt helt
  have hn : H s.heap.objs.size = none := I.hok.fresh (Nat.le_refl _)
  have kp : ∀ b o, b ∉ [e, it] → s.heap.get? b = some o → h2.get? b = some o := fun b o hb q => by
   have hbe : b ≠ e := fun z => hb (by simp [z])
   have hbi : b ≠ it := fun z => hb (by simp [z])
   exact (hs2.2 b hbe).trans (hk b o hbe hbi q)
  have hT2 : h2.get? s.heap.objs.size = some { cls := .type "tuple", data := .seq #[.int i tk, v] } := (hs2.2 _ hTe).trans hT
  have I2 : Inv X pins σ (upd H s.heap.objs.size (.tup [.int i, x])) { s with heap := h2, toks := tk + 1 } := I.turnLaid (fp := [e, it]) kp hf (Nat.le_refl _) ⟨by show 2 ≤ sizeLine; rw [sizeLine_eq]; decide, [.int i tk, v], .cons ⟨_, rfl⟩ (.cons ru .nil), ⟨_, hT2, rfl, _, rfl⟩⟩
  refine ⟨.ref s.heap.objs.size, _, I2, rfl, ⟨s.heap.objs.size, x, rfl, hn, rfl, fun ys hy => by rw [I.tuple_inj hy hq]; exact hx⟩, ⟨⟨_, by simpa using he2⟩, hst'.1.at fun o q => (hs2.2 it hei.symm).trans q, hai, hae⟩, fun b hb => ?_⟩
  have hbz : b ≠ s.heap.objs.size := by
   rcases List.mem_cons.mp hb with z | z
   ·rw [z]; exact Nat.ne_of_lt helt
   ·rw [List.mem_singleton.mp z]; exact Nat.ne_of_lt hilt
  rw [upd_ne hbz]; exact (hf b hb).1
 done := by
  intro X hP hw hK hc i pins s σ H E I hf st hg
  subst hP hw hK
  obtain ⟨⟨old, he⟩, hit, hai, hae⟩ := st
  obtain ⟨xs, hq, hx⟩ := hg
  obtain ⟨its, rv, p, hz⟩ := I.tuple hq
  have hl := rv.length
  have hi : its.toArray.size = i := by rw [List.size_toArray, ← hl, hx]
  refine wpAny_pyNext_enum_endD (Draws.tuple (A := X.A.in1) (by simp [I.ok.hd hc]) it a hai its.toArray) he (by rw [hi]; exact ⟨hit, p⟩) fun h' hs' => ⟨rfl, ?_⟩
  exact I.turned (it := it) (t' := s.toks) (fun b o hb q => hs' b o hb q) (hf it (by simp)).1 (hf it (by simp)).2.1 (hf it (by simp)).2.2.2.1 (hf it (by simp)).2.2.2.2.1 (hf it (by simp)).2.2.2.2.2
 self := fun _ _ _ _ _ st h => let ⟨old, he⟩ := st.1; wpAny_pyIter_enum he h
noncomputable def iEnumT (K : PySem.W.Frag) (ta : TA) : TI := fun σ H R => ta σ H fun vs H1 => ∃ a xs, vs = [.ref a] ∧ SqT K H1 a xs ∧ R (Ite fun H xs => SqT K H a xs) H1
theorem pi_enumT {a : Expr} {ta : TA} {p pos : Pos} {es : List Expr} {x1} {tpos : Pos} (hc : X.calm = true) (hg : Gl X "enumerate") (hm : X.mg "enumerate" = none) (ha : PA X [a] ta) (hs : starEach [a] X.env = [(false, eval a X.env)] := by rfl) :
  PI X (.Tuple es x1 tpos) (.Call (.Name "enumerate" p) [a] [] pos) (iEnumT X.K ta) := by
 intro pins s σ H R I h
 refine Call_ (ld_blt I hg hm boot_enumerate (PyProof.Rows.callWith_type1 (thn (ha pos pins s σ H _ I h) fun us s1 ⟨vs, H1, I1, r1, q1⟩ => ?_) hs rfl))
 obtain ⟨b, xs, e, hq, q⟩ := q1
 subst e
 obtain ⟨u, rfl, rx⟩ := vals1 r1
 cases rx
 obtain ⟨its, rv, pt, hz⟩ := I1.tuple hq
 have hblt : b < s1.heap.objs.size := by obtain ⟨o, ho, _⟩ := id pt; exact Heap.lt_size ho
 refine call_enumerate_tuple pt fun h' he hit hsz hk => ?_
 refine wpAny_pyIter_enum (s := { s1 with heap := h' }) he ?_
 have I2 : Inv X pins σ H1 { s1 with heap := h' } := I1.kept (t' := s1.toks) hk
 refine ⟨s1.heap.objs.size + 1, [s1.heap.objs.size + 1, s1.heap.objs.size], _, _, H1, rfl, I2, turn_enumT _ _ b (Nat.succ_ne_self _), ⟨⟨_, he⟩, hit, Nat.ne_of_lt hblt, Nat.ne_of_lt (Nat.lt_succ_of_lt hblt)⟩, fun c hc' => ?_, q⟩
 have hge : s1.heap.objs.size ≤ c := by
  rcases List.mem_cons.mp hc' with z | z
  ·rw [z]; exact Nat.le_succ _
  ·rw [List.mem_singleton.mp z]; exact Nat.le_refl _
 exact I1.fpOk hge (I1.hok.fresh hge)
theorem for_enum {S : Hp → List V → Prop} {xs : List V} {g : TG} {tb : TS} {D : Ends} {σ : St} {H : Hp} (Pv : Nat → St → Hp → Prop) (h0 : Pv 0 σ H) (hl : ∀ i σ H, i ≤ xs.length → Pv i σ H → S H xs)
  (hs : ∀ i x p σ H, xs[i]? = some x → Pv i σ H → H p = none → g (.ref p) σ (upd H p (.tup [.int i, x])) fun σ2 H2 => tb { D with nx := Pv (i + 1), ct := Pv (i + 1), bk := D.nx } σ2 H2) (hd : ∀ σ H, Pv xs.length σ H → D.nx σ H) :
  tForJ (Ite S) g tb D σ H := by
 refine ⟨fun i m σ H => m = xs.length - i ∧ i ≤ xs.length ∧ Pv i σ H, ⟨xs.length, by simp, Nat.zero_le _, h0⟩, ?_⟩
 rintro i m σ H ⟨rfl, hi, p⟩
 have q := hl i σ H hi p
 by_cases hlt : i < xs.length
 ·refine .inr ⟨⟨xs, xs[i], q, by simp [hlt]⟩, Pv (i + 1), fun σ' H' p' => ⟨xs.length - (i + 1), by omega, rfl, hlt, p'⟩, fun x H' y => ?_⟩
  obtain ⟨pp, yy, e1, e2, e3, e4⟩ := y
  subst e1 e3
  exact hs i yy pp σ H (e4 xs q) p e2
 ·have e : i = xs.length := by omega
  subst e
  exact .inl ⟨⟨xs, q, rfl⟩, hd σ H p⟩
end
end L2
namespace L2
open PySem PySem.Spec PyProof.Rows
section
variable {X : Cx} {pins : List (Addr × Obj)} {σ : St} {H : Hp} {s : Shared}
noncomputable def NewTup (H : Hp) (ys : List V) (Q : VK) : Prop := ∀ p H', Same H H' → H' p = some (.tup ys) → Q (.ref p) H'
theorem same_upd {H : Hp} {p : Addr} {o : HO} (h : H p = none) : Same H (upd H p o) := fun b u e => by rw [upd_ne (ne_of_none e h)]; exact e
theorem NewTup.new {ys : List V} {Q : VK} {p : Addr} (h : NewTup H ys Q) (hp : H p = none) : Q (.ref p) (upd H p (.tup ys)) := h p _ (same_upd hp) upd_same
theorem NewTup.old {ys : List V} {Q : VK} {p : Addr} (h : NewTup H ys Q) (hp : H p = some (.tup ys)) : Q (.ref p) H := h p H (Same.refl H) hp
theorem Inv.newTup {ys : List V} {its : List Value} {Q : VK} (I : Inv X pins σ H s) (r : Vals ys its) (hz : ys.length ≤ sizeLine) (h : NewTup H ys Q) : EP X pins σ Q (.ref s.heap.objs.size) { s with heap := s.heap.push { cls := .type "tuple", data := .seq its.toArray } } :=
 ⟨.ref s.heap.objs.size, _, I.laid (t' := s.toks) (o := .tup ys) (fun b ob q => Heap.get?_push_of_some _ q) (Nat.le_refl _) ⟨hz, _, r, IsTup.new _ _⟩, rfl, h.new (I.hok.fresh (Nat.le_refl _))⟩
noncomputable def rCatU : R2 := fun x y H Q => ∃ a b xs ys, x = .ref a ∧ y = .ref b ∧ H a = some (.tup xs) ∧ H b = some (.tup ys) ∧ xs.length + ys.length ≤ sizeLine ∧ NewTup H (xs ++ ys) Q
theorem op_catU : OpR X (binaryOp .Add) rCatU := by
 intro pins s σ H x y v u Q I rx ry h
 obtain ⟨a, b, xs, ys, rfl, rfl, ha, hb, hz, q⟩ := h
 cases rx
 cases ry
 obtain ⟨its, r1, p1, _⟩ := I.tuple (SqT.of ha)
 obtain ⟨its2, r2, p2, _⟩ := I.tuple (SqT.of hb)
 by_cases hx : xs = []
 ·subst hx
  cases r1
  obtain ⟨⟨c1, d1, t1, l1⟩, ho, hc, n, hd⟩ := id p1
  obtain ⟨⟨c2, d2, t2, l2⟩, ho2, hc2, n2, hd2⟩ := id p2
  simp only at hc hd hc2 hd2
  subst hc hd hc2 hd2
  exact concat_meets ⟨_, ho, rfl⟩ ⟨_, ho2, rfl⟩ noFill_tuple_add seq_tuple_add PySem.F.slot_tuple_add PySem.F.entry_tuple_add (PySem.F.args_tuple_add_2 _ _) (tuple_addW0 a b _ _ n n2 d1 d2 l1 l2 (by simp)) ⟨ho, ho2, .ref b, H, I, rfl, q.old hb⟩
 ·refine HT.cat_tup p1 p2 (fun z => hx (r1.nil_iff.mp z)) (fun z => ⟨.ref a, H, I, rfl, ?_⟩) (fun z => I.newTup (r1.append r2) (by rw [List.length_append]; exact hz) q) (by rw [← r1.length, ← r2.length]; exact hz)
  have : ys = [] := r2.nil_iff.mp z
  subst this
  rw [List.append_nil] at q
  exact q.old ha
theorem slice_same {t sl : Addr} {items : Array Value} {vl vu : Value} {lo hi : Option Int} {Q : Value → Shared → Prop} {prog : Program} {w : World} {A : Around} {E : Value → Shared → Prop} (ht : IsTup s.heap t items) (hs : s.heap.IsSliceOf sl vl vu .none) (pl : IsPart vl lo) (pu : IsPart vu hi)
  (hw : HT.sIx items.size 0 lo = 0 ∧ HT.sIx items.size items.size hi = items.size) (h : Q (.ref t) s) : wpAny (model prog w) A (getItem (.ref t) (.ref sl)) Q E s := by
 obtain ⟨os, hos, hcs, hds⟩ := id hs
 have hTs : s.TypeIs (.ref sl) "slice" := ⟨os, hos, hcs⟩
 unfold getItem
 try with_reducible refine wpAny_holding ?_
 first | refine wpAny_bind (wpAny_pure ?_) | skip
 refine wpAny_bind (wpAny_sequenceKey ht.typeIs (by decide) (wpAny_bind (wpAny_callSpecial?_slot (name := Str.ofString "__getitem__") ht.typeIs PyProof.Rows.slot_tuple_getitem (wpAny_call_entry PyProof.Rows.slot_tuple_getitem ht.typeIs entry_tuple_getitem ?_ (args_tuple_getitem _ _)))))
 show wpAny _ _ (Builtin.Tuple.tupleItemsOf (.ref t) >>= _) _ _ s
 refine wpAny_bind (tupleItemsOf_ ht (wpAny_bind (wpAny_typeOf hTs ?_)))
 rw [if_pos (by decide)]
 refine wpAny_bind (HT.sliceApplied_gen hs pl pu ?_)
 have hyes : (((HT.sIx items.size 0 lo : Nat) : Int) == 0 && (1 : Int) == 1 && (HT.sIx items.size items.size hi - HT.sIx items.size 0 lo) == items.size) = true := by rw [hw.1, hw.2]; simp
 show wpAny _ _ (if (((HT.sIx items.size 0 lo : Nat) : Int) == 0 && (1 : Int) == 1 && (HT.sIx items.size items.size hi - HT.sIx items.size 0 lo) == items.size) = true then _ else _) _ _ s
 rw [if_pos hyes]
 obtain ⟨⟨c1, d1, t1, l1⟩, ho, hc, n, hd⟩ := id ht
 simp only at hc hd
 subst hc hd
 obtain ⟨hp, g, d, tk, osx⟩ := s
 wp_walk using AutoSeq1.wpAny_loadPart' ho
 all_goals first | exact ⟨_, rfl, h⟩ | exact ⟨_, rfl, wpAny_pure h⟩
noncomputable def rSlU : V → Option Int → Option Int → Hp → VK → Prop := fun x lo hi H Q => ∃ a xs, x = .ref a ∧ H a = some (.tup xs) ∧ NewTup H (cutV xs lo hi) Q
theorem sl_tupU : SlR X rSlU := by
 intro pins s σ H x v vl vu lo hi sl Q I rx hs pl pu h
 obtain ⟨a, xs, rfl, hx, q⟩ := h
 cases rx
 obtain ⟨its, r, ht, hz⟩ := I.tuple (SqT.of hx)
 have hlen : its.toArray.size = xs.length := by rw [List.size_toArray]; exact r.length.symm
 refine ⟨"tuple", _, PyProof.Rows.slot_tuple_getitem.lookup, ht.typeIs, ?_⟩
 by_cases hw : HT.sIx xs.length 0 lo = 0 ∧ HT.sIx xs.length xs.length hi = xs.length
 ·refine slice_same ht hs pl pu (by rw [hlen]; exact hw) ⟨.ref a, H, I, rfl, ?_⟩
  have : cutV xs lo hi = xs := by unfold cutV; rw [hw.1, hw.2]; simp
  rw [this] at q
  exact q.old hx
 ·refine HT.getItem_tuple_cut ht hs pl pu (by rw [hlen]; exact hw) ?_ (by rw [hlen]; exact hz)
  rw [hlen]
  exact I.newTup ((r.drop (HT.sIx xs.length 0 lo)).take (HT.sIx xs.length xs.length hi - HT.sIx xs.length 0 lo)) (Nat.le_trans (cutV_length xs lo hi) hz) q
end
end L2
namespace L2
open PySem PySem.Spec PyProof.Rows
section
variable {X : Cx} {pos : Pos}
noncomputable def tPar3 (i j k : Nat) (ta : TA) : TS := fun D σ H => ta σ H fun vs H1 => ∃ v w z, vs = [v, w, z] ∧ D.nx (((σ.set i (some v)).set j (some w)).set k (some z)) H1
theorem ps_par3 {i j k : Nat} {x y z : Str} {a b c : Expr} {ta : TA} {px py pz pt : Pos} {kt k2 pt2} (hc : X.calm = true) (hN : X.N.Nodup) (hi : X.N[i]? = some x) (hj : X.N[j]? = some y) (hk : X.N[k]? = some z) (hij : i ≠ j) (hik : i ≠ k) (hjk : j ≠ k)
  (hx : X.env.scope.names.lookup x = some .local) (hy : X.env.scope.names.lookup y = some .local) (hz : X.env.scope.names.lookup z = some .local) (ha : PA X [a, b, c] ta)
  (hw : swappedStores [.Tuple [.Name x px, .Name y py, .Name z pz] kt pt] (.Tuple [a, b, c] k2 pt2) X.env = pure (some [x, y, z]))
  (hs : swapsWithSole [.Tuple [.Name x px, .Name y py, .Name z pz] kt pt] (.Tuple [a, b, c] k2 pt2) pos.line X.env = pure false := by rfl) :
  PS X (.Assign [.Tuple [.Name x px, .Name y py, .Name z pz] kt pt] (.Tuple [a, b, c] k2 pt2) pos) (tPar3 i j k ta) := by
 intro pins s σ H D I h
 rw [exec_Assign_arm]
 refine wpAny_bind (wpAny_standAt ?_)
 rw [hs]
 refine wpAny_bind (wpAny_pure ?_)
 rw [if_neg (by decide)]
 refine wpAny_bind (Tuple_ (thn (ha _ pins s σ H _ I h) fun us s1 ⟨vs, H1, I1, r1, q1⟩ => ?_))
 obtain ⟨v, w, t, e1, q1⟩ := q1
 subst e1
 obtain ⟨u1, u2, u3, rfl, r1, r2, r3⟩ : ∃ u1 u2 u3, us = [u1, u2, u3] ∧ RelV v u1 ∧ RelV w u2 ∧ RelV t u3 := by
  cases r1 with
  | cons p q =>
   cases q with
   | cons p' q' =>
    cases q' with
    | cons p3 q3 => cases q3; exact ⟨_, _, _, rfl, p, p', p3⟩
 refine wpAny_newObj_type ?_ (by show 3 ≤ sizeLine; decide)
 have I2 : Inv X pins σ H1 { s1 with heap := s1.heap.push { cls := .type "tuple", data := .seq [u1, u2, u3].toArray } } := I1.kept (t' := s1.toks) fun b o e => Heap.get?_push_of_some _ e
 rw [hw]
 refine wpAny_bind (wpAny_pure ?_)
 show wpAny (model X.prog X.w) X.A (do rule "assign.swapped-stores"; let items ← unpackItems (.ref s1.heap.objs.size) 3 none; assignInOrder [fun v => bindName X.env z v, fun v => bindName X.env y v, fun v => bindName X.env x v] items.reverse; pure Flow.next) _ _ _
 refine wpAny_bind (wpAny_rule (wpAny_bind (unpackItems_tuple (items := #[u1, u2, u3]) (I.ok.hd hc) (IsTup.new s1.heap _) fun h' hx' => ?_)))
 have I3 := I2.kept (h' := h') (t' := s1.toks) fun b o e => hx' b o (Nat.ne_of_lt (Heap.lt_size e)) e
 show wpAny _ _ (assignInOrder [fun v => bindName X.env z v, fun v => bindName X.env y v, fun v => bindName X.env x v] [u3, u2, u1] >>= fun _ => pure Flow.next) _ _ _
 refine wpAny_bind (assignInOrder_cons (wpAny_bindName (store_ok I3 hN hk (.inl hz) r3 (fun s2 I4 => ?_) (.inr hz))))
 refine assignInOrder_cons (wpAny_bindName (store_ok I4 hN hj (.inl hy) r2 (fun s3 I5 => ?_) (.inr hy)))
 refine assignInOrder_cons (wpAny_bindName (store_ok I5 hN hi (.inl hx) r1 (fun s4 I6 => assignInOrder_nil (wpAny_pure ?_)) (.inr hx)))
 rw [List.set_comm _ _ (Ne.symm hij), List.set_comm _ _ (Ne.symm hik), List.set_comm _ _ (Ne.symm hjk)] at I6
 exact ⟨_, H1, by first | exact I6 | (rw [List.set_comm _ _ hij] at I6; exact I6) | (simpa [List.set_comm _ _ hij, List.set_comm _ _ hik, List.set_comm _ _ hjk] using I6), q1⟩
end
end L2
namespace L2
open PySem PySem.Spec PyProof.Rows
noncomputable def Kn (H : Hp) : Nat → V → Prop
 | 0, _ => True
 | n + 1, v => match v with
  | .non => True
  | .bl _ => True
  | .int _ => True
  | .str _ => True
  | .ref a => (∃ xs, H a = some (.lst xs)) ∨ (∃ kvs, H a = some (.dK kvs)) ∨ ∃ xs, H a = some (.tup xs) ∧ xs.length ≤ 1000 ∧ ∀ x ∈ xs, Kn H n x
  | _ => False
noncomputable def KnA (H : Hp) (v : V) : Prop := ∀ n, Kn H n v
structure Ext (H H' : Hp) : Prop where
 tup : ∀ a xs, H a = some (.tup xs) → H' a = some (.tup xs)
 lst : ∀ a xs, H a = some (.lst xs) → ∃ ys, H' a = some (.lst ys)
 dct : ∀ a kvs, H a = some (.dK kvs) → H' a = some (.dK kvs)
theorem Ext.trans {H H1 H2 : Hp} (a : Ext H H1) (b : Ext H1 H2) : Ext H H2 := ⟨fun _ _ h => b.tup _ _ (a.tup _ _ h), fun _ _ h => let ⟨_, e⟩ := a.lst _ _ h; b.lst _ _ e, fun _ _ h => b.dct _ _ (a.dct _ _ h)⟩
theorem Same.ext {H H' : Hp} (s : Same H H') : Ext H H' := ⟨fun _ _ h => s _ _ h, fun _ xs h => ⟨xs, s _ _ h⟩, fun _ _ h => s _ _ h⟩
theorem Kn.ext {H H' : Hp} (e : Ext H H') : ∀ {n : Nat} {v : V}, Kn H n v → Kn H' n v
 | 0, _, _ => True.intro
 | n + 1, v, h => by
  cases v with
  | ref a =>
   rcases h with ⟨xs, h⟩ | ⟨kvs, h⟩ | ⟨xs, h, hl, hx⟩
   ·exact .inl (e.lst _ _ h)
   ·exact .inr (.inl ⟨kvs, e.dct _ _ h⟩)
   ·exact .inr (.inr ⟨xs, e.tup _ _ h, hl, fun x hm => Kn.ext e (hx x hm)⟩)
  | _ => exact h
theorem Kn.le {H : Hp} : ∀ {n m : Nat} {v : V}, n ≤ m → Kn H m v → Kn H n v
 | 0, _, _, _, _ => True.intro
 | n + 1, 0, _, h, _ => absurd h (by omega)
 | n + 1, m + 1, v, h, k => by
  cases v with
  | ref a =>
   rcases k with ⟨xs, k⟩ | ⟨kvs, k⟩ | ⟨xs, k, hl, hx⟩
   ·exact .inl ⟨xs, k⟩
   ·exact .inr (.inl ⟨kvs, k⟩)
   ·exact .inr (.inr ⟨xs, k, hl, fun x hm => Kn.le (by omega) (hx x hm)⟩)
  | _ => exact k
theorem KnA.int {H : Hp} (i : Int) : KnA H (.int i) := fun n => by cases n <;> exact True.intro
theorem KnA.tup {H : Hp} {a : Addr} {xs : List V} (h : H a = some (.tup xs)) (hl : xs.length ≤ 1000) (hx : ∀ x ∈ xs, KnA H x) : KnA H (.ref a) := fun n => by
 cases n with
 | zero => exact True.intro
 | succ n => exact .inr (.inr ⟨xs, h, hl, fun x hm => hx x hm n⟩)
theorem Kn.items {H : Hp} {n : Nat} {a : Addr} {xs : List V} (k : Kn H (n + 1) (.ref a)) (h : H a = some (.tup xs)) : xs.length ≤ 1000 ∧ ∀ x ∈ xs, Kn H n x := by
 rcases k with ⟨ys, k⟩ | ⟨kvs, k⟩ | ⟨ys, k, hl, hx⟩
 ·rw [h] at k; cases k
 ·rw [h] at k; cases k
 ·rw [h] at k; cases k; exact ⟨hl, hx⟩
noncomputable def isInt : V → Bool | .int _ => true | _ => false
noncomputable def isBl : V → Bool | .bl _ => true | _ => false
noncomputable def tupOf (H : Hp) : V → Option (List V)
 | .ref a => match H a with | some (.tup xs) => some xs | _ => none
 | _ => none
theorem tupOf_of {H : Hp} {a : Addr} {xs : List V} (h : H a = some (.tup xs)) : tupOf H (.ref a) = some xs := by simp [tupOf, h]
theorem of_tupOf {H : Hp} {v : V} {xs : List V} (h : tupOf H v = some xs) : ∃ a, v = .ref a ∧ H a = some (.tup xs) := by
 cases v with
 | ref a =>
  unfold tupOf at h
  cases e : H a with
  | none => simp [e] at h
  | some o => cases o <;> simp [e] at h; subst h; exact ⟨a, rfl, e⟩
 | _ => simp [tupOf] at h
section
variable {K : PySem.W.Frag}
theorem kit_same (T : String) : PySem.W.kitOne K (.type T) (.type T) = some true := by unfold PySem.W.kitOne; rw [if_pos (by simp)]
theorem ty_of {H : Hp} {v : V} (k : Kn H 1 v) : ∃ t, TyOf K H v t ∧ PySem.W.kitOne K t (.type "int") = some (isInt v || isBl v) ∧ PySem.W.kitOne K t (.type "bool") = some (isBl v) ∧ PySem.W.kitOne K t (.type "tuple") = some (tupOf H v).isSome := by
 cases v with
 | non => exact ⟨_, .non, by kernel_rfl, by kernel_rfl, by kernel_rfl⟩
 | bl b => exact ⟨_, .bl b, by kernel_rfl, by kernel_rfl, by kernel_rfl⟩
 | int i => exact ⟨_, .int i, by kernel_rfl, by kernel_rfl, by kernel_rfl⟩
 | str x => exact ⟨_, .str x, by kernel_rfl, by kernel_rfl, by kernel_rfl⟩
 | ref a =>
  rcases k with ⟨xs, k⟩ | ⟨kvs, k⟩ | ⟨xs, k, hl, hx⟩
  ·refine ⟨_, .lst k, by kernel_rfl, by kernel_rfl, ?_⟩
   have : (tupOf H (.ref a)).isSome = false := by simp [tupOf, k]
   rw [this]; kernel_rfl
  ·refine ⟨_, .dK k, by kernel_rfl, by kernel_rfl, ?_⟩
   have : (tupOf H (.ref a)).isSome = false := by simp [tupOf, k]
   rw [this]; kernel_rfl
  ·refine ⟨_, .tup k, by kernel_rfl, by kernel_rfl, ?_⟩
   have : (tupOf H (.ref a)).isSome = true := by simp [tupOf, k]
   rw [this]; kernel_rfl
 | _ => exact (show False from k).elim
end
noncomputable def numIn (lo hi : Int) : V → Bool | .int i => decide (lo ≤ i) && decide (i ≤ hi) | _ => false
noncomputable def rowOk (H : Hp) (v : V) : Bool := match tupOf H v with
 | some xs => decide (1 ≤ xs.length) && decide (xs.length ≤ 6) && xs.all (numIn (-2) 99)
 | none => false
noncomputable def nonneg : V → Bool | .int i => decide (0 ≤ i) | _ => false
noncomputable def lenOf (H : Hp) (v : V) : Nat := ((tupOf H v).getD []).length
noncomputable def cellsIn (H : Hp) (v : V) : Nat := (((tupOf H v).getD []).filter nonneg).length
noncomputable def goodM (H : Hp) (v : V) : Bool := match tupOf H v with
 | none => false
 | some rows => decide (1 ≤ rows.length) && decide (rows.length ≤ 4) && rows.all (rowOk H) && rows.all (fun r => decide (lenOf H r = lenOf H (rows.headD .non))) &&
   (decide (1 ≤ (rows.map (cellsIn H)).sum) && decide ((rows.map (cellsIn H)).sum ≤ 10))
theorem Same.tupOf {H H' : Hp} (s : Same H H') {v : V} (k : Kn H 1 v) : L2.tupOf H' v = L2.tupOf H v := by
 cases v with
 | ref a =>
  rcases k with ⟨xs, k⟩ | ⟨kvs, k⟩ | ⟨xs, k, _⟩
  ·simp [L2.tupOf, k, s _ _ k]
  ·simp [L2.tupOf, k, s _ _ k]
  ·simp [L2.tupOf, k, s _ _ k]
 | _ => rfl
theorem Same.rowOk {H H' : Hp} (s : Same H H') {v : V} (k : Kn H 1 v) : L2.rowOk H' v = L2.rowOk H v := by unfold L2.rowOk; rw [s.tupOf k]
noncomputable def PenAt (H : Hp) (p : Addr) : Prop := ∃ x f : Int, H p = some (.lst [.int x, .int f])
structure Stp (p : Addr) (H H' : Hp) : Prop where
 pen : PenAt H' p
 keep : ∀ b o, b ≠ p → H b = some o → H' b = some o
theorem Stp.refl {p : Addr} {H : Hp} (h : PenAt H p) : Stp p H H := ⟨h, fun _ _ _ e => e⟩
theorem Stp.trans {p : Addr} {H H1 H2 : Hp} (a : Stp p H H1) (b : Stp p H1 H2) : Stp p H H2 := ⟨b.pen, fun c o h e => b.keep c o h (a.keep c o h e)⟩
theorem Stp.same {p : Addr} {H H1 H2 : Hp} (a : Stp p H H1) (s : Same H1 H2) : Stp p H H2 := ⟨let ⟨x, f, e⟩ := a.pen; ⟨x, f, s _ _ e⟩, fun b o h e => s _ _ (a.keep b o h e)⟩
theorem PenAt.ne {H : Hp} {p b : Addr} {o : HO} (h : PenAt H p) (e : H b = some o) (n : ∀ xs, o ≠ .lst xs) : b ≠ p := fun z => by
 obtain ⟨x, f, e2⟩ := h
 rw [z, e2] at e
 cases e
 exact n _ rfl
theorem Stp.ext {p : Addr} {H H' : Hp} (h : PenAt H p) (s : Stp p H H') : Ext H H' where
 tup := fun a xs e => s.keep a _ (h.ne e (by intro z; simp)) e
 lst := fun a xs e => by
  by_cases ha : a = p
  ·obtain ⟨x, f, e2⟩ := s.pen
   exact ⟨_, by rw [ha]; exact e2⟩
  ·exact ⟨xs, s.keep a _ ha e⟩
 dct := fun a kvs e => s.keep a _ (h.ne e (by intro z; simp)) e
end L2
namespace L2
open PySem PySem.Spec PyProof.Rows
theorem comp_map {K : PySem.W.Frag} {a l : Addr} {xs : List V} {te : TE} {H0 : Hp} {rest : St} {Q : St → Hp → Prop} (f : V → V) (ha : H0 a = some (.tup xs)) (hl : H0 l = none) (hz : xs.length ≤ 1000)
  (turn : ∀ x H' Q', x ∈ xs → Same H0 H' → (∀ H2, Same H' H2 → Q' (f x) H2) → te (some x :: rest) H' Q') (hQ : ∀ σ H', Same H0 H' → H' l = some (.lst (xs.map f)) → Q σ H') :
  tForJ (Itt K a) (gName 0) (tBodyC tAll (tEmit l te)) (eC Q) (none :: rest) (upd H0 l (.lst [])) := by
 have s0 : Same H0 (upd H0 l (.lst [])) := same_upd hl
 refine for_tup (K := K) (a := a) (xs := xs) (fun i σ H' => (∃ o, σ = o :: rest) ∧ Same H0 H' ∧ H' l = some (.lst ((xs.take i).map f))) ⟨⟨_, rfl⟩, s0, by rw [upd_same]; rfl⟩ (fun i σ H' _ h => SqT.of (h.2.1 _ _ ha)) ?_ ?_
 ·rintro i x σ H' hx ⟨⟨o, rfl⟩, hs, hl'⟩
  show tEmit l te (some x :: rest) H' _
  refine turn x H' _ (List.mem_of_getElem? hx) hs fun H2 h2 => ?_
  refine ⟨_, h2 _ _ hl', ?_, ⟨_, rfl⟩, fun b u e => ?_, ?_⟩
  ·rw [List.length_map, List.length_take]
   exact small1000 (by omega)
  ·rw [upd_ne (ne_of_none e hl)]; exact h2 _ _ (hs _ _ e)
  ·rw [upd_same, List.take_succ, hx, List.map_append]; rfl
 ·rintro σ H' ⟨_, hs, hl'⟩
  rw [List.take_of_length_le (Nat.le_refl _)] at hl'
  exact hQ σ H' hs hl'
theorem body_all {tb : TC} {D : Ends} {σ : St} {H : Hp} (h : tb σ H D.nx) : tBodyC tAll tb D σ H := by
 show (if true = true then tb σ H D.nx else D.nx σ H)
 exact iteT h
theorem body_name {i : Nat} {v : V} {tb : TC} {D : Ends} {σ : St} {H : Hp} (h : tb (σ.set i (some v)) H D.nx) : gName i v σ H (fun σ2 H2 => tBodyC tAll tb D σ2 H2) := body_all h
theorem iteB {b : Bool} {A B : Prop} (h1 : b = true → A) (h2 : b = false → B) : if b = true then A else B := by
 cases b with
 | true => exact iteT (h1 rfl)
 | false => exact iteF (h2 rfl)
theorem ite2d {c : Prop} [Decidable c] {A B : Prop} (h1 : c → A) (h2 : ¬ c → B) : if decide c = true then A else B := by
 by_cases h : c
 ·rw [decide_eq_true h]; exact iteT (h1 h)
 ·rw [decide_eq_false h]; exact iteF (h2 h)
end L2
namespace M50
open PySem L2 PyProof.Rows
noncomputable def top (i : Nat) : Stmt := PySem.Challenge.pw_meadshares_k50_whole_walks_close.main.body.getD i (.Pass ⟨0, 0, 0, 0⟩)
noncomputable abbrev sNumber : Stmt := top 7
noncomputable abbrev sWithin : Stmt := top 8
noncomputable abbrev sTuple : Stmt := top 9
noncomputable abbrev sRow : Stmt := top 18
noncomputable abbrev sMead : Stmt := top 19
noncomputable abbrev sPlaces : Stmt := top 21
structure Txt (mg : Str → Option Value) : Prop where
 isinstance : mg "isinstance" = none
 int : mg "int" = none
 bool : mg "bool" = none
 tuple : mg "tuple" = none
 len : mg "len" = none
 all : mg "all" = none
 enumerate : mg "enumerate" = none
 rows : ∃ t, mg "MOST_ROWS" = some (.int 4 t)
 cols : ∃ t, mg "MOST_COLUMNS" = some (.int 6 t)
 cells : ∃ t, mg "MOST_CELLS" = some (.int 10 t)
 worth : ∃ t, mg "MOST_WORTH" = some (.int 99 t)
 water : ∃ t, mg "WATER" = some (.int (-2) t)
noncomputable def spNumber : Sp := fun vs H Q _ => ∃ v, vs = [v] ∧ Kn H 1 v ∧ Q (.bl (isInt v)) H
noncomputable def spWithin : Sp := fun vs H Q _ => ∃ v lo hi, vs = [v, .int lo, .int hi] ∧ Kn H 1 v ∧ Q (.bl (numIn lo hi v)) H
noncomputable def tupIn (H : Hp) (lo hi : Int) (v : V) : Bool := match tupOf H v with | some xs => decide (lo ≤ xs.length) && decide ((xs.length : Int) ≤ hi) | none => false
noncomputable def spTuple : Sp := fun vs H Q _ => ∃ v lo hi, vs = [v, .int lo, .int hi] ∧ Kn H 1 v ∧ Q (.bl (tupIn H lo hi v)) H
noncomputable def spRow : Sp := fun vs H Q _ => ∃ v, vs = [v] ∧ Kn H 2 v ∧ ∀ H', Same H H' → Q (.bl (rowOk H v)) H'
noncomputable def spMead : Sp := fun vs H Q _ => ∃ v, vs = [v] ∧ Kn H 3 v ∧ ∀ H', Same H H' → Q (.bl (goodM H v)) H'
section
variable {P : Program} {w : World} {K : PySem.W.Frag} {mg : Str → Option Value} {base : Heap}
theorem scNumber : FnScope ["thing"] ["thing"] (defScope sNumber) := ⟨rfl, rfl, rfl, by decide +kernel, rfl, by decide +kernel, by decide +kernel⟩
theorem ok_number {f : Addr} {fd : FuncData} (F : Fun K "is_number" "is_number" sNumber f fd) (T : Txt mg) : FnOk P w K mg base CX0 1 f fd ["thing"] spNumber := by
 refine F.ok scNumber (fun vs H Q E h => ?_) (fun cdv A outer s H vs Q E hr h => ?_)
 ·obtain ⟨v, rfl, _⟩ := h; rfl
 ·obtain ⟨v, rfl, k, q⟩ := h
  refine ⟨_, pss_one (ps_ret (pe_and (pe_callB call_isinst rfl T.isinstance boot_isinstance (pa_cons (pv 0) (pa_cons (pe_bltn (v := .ty "int") rfl T.int boot_int rfl) pa_nil)))
   (pe_one (pe_not (pe_callB call_isinst rfl T.isinstance boot_isinstance (pa_cons (pv 0) (pa_cons (pe_bltn (v := .ty "bool") rfl T.bool boot_bool rfl) pa_nil))))))), ?_⟩
  obtain ⟨t, ty, k1, k2, _⟩ := ty_of (K := K) k
  refine ⟨_, rfl, _, "int", t, _, rfl, ty, k1, _, rfl, iteB (fun e => ?_) fun e => ?_⟩
  ·refine ⟨_, rfl, _, "bool", t, _, rfl, ty, k2, _, rfl, ?_⟩
   have : (!isBl v) = isInt v := by cases v <;> first | rfl | cases e
   rw [this]; exact q
  ·have : isInt v = false := (Bool.or_eq_false_iff.mp e).1
   rw [this] at q; exact q
theorem scWithin : FnScope ["thing", "least", "most"] ["thing", "least", "most"] (defScope sWithin) := ⟨rfl, rfl, rfl, by decide +kernel, rfl, by decide +kernel, by decide +kernel⟩
theorem ok_within {f g : Addr} {fd gd : FuncData} (F : Fun K "is_number_within" "is_number_within" sWithin f fd) (T : Txt mg) (G : Fun K "is_number" "is_number" sNumber g gd) (b : Binds K gd ["thing"] []) (m : mg "is_number" = some (.ref g)) : FnOk P w K mg base CX0 2 f fd ["thing", "least", "most"] spWithin := by
 have GN : FnOk P w K mg base CX0 1 g gd ["thing"] spNumber := ok_number G T
 refine F.ok scWithin (fun vs H Q E h => ?_) (fun cdv A outer s H vs Q E hr h => ?_)
 ·obtain ⟨v, lo, hi, rfl, _⟩ := h; rfl
 ·obtain ⟨v, lo, hi, rfl, k, q⟩ := h
  refine ⟨_, pss_one (ps_ret (pe_and (pe_call GN hr rfl m G.kp b .nil pass0 (pa_cons (pv 0) pa_nil)) (pe_one (pe_chain op_le op_le (pv 1) (pv 0) (pv 2))))), ?_⟩
  refine ⟨_, rfl, v, rfl, k, _, rfl, iteB (fun e => ?_) fun e => ?_⟩
  ·cases v with
   | int i =>
    refine ⟨_, rfl, _, rfl, _, _, rfl, rfl, _, rfl, ite2d (fun h1 => ?_) fun h1 => ?_⟩
    ·refine ⟨_, rfl, _, _, rfl, rfl, ?_⟩
     have : numIn lo hi (.int i) = decide (i ≤ hi) := by simp [numIn, h1]
     rw [this] at q; exact q
    ·have : numIn lo hi (.int i) = false := by simp [numIn, h1]
     rw [this] at q; exact q
   | _ => cases e
  ·have : numIn lo hi v = false := by cases v <;> first | rfl | cases e
   rw [this] at q; exact q
theorem scTuple : FnScope ["thing", "least", "most"] ["thing", "least", "most"] (defScope sTuple) := ⟨rfl, rfl, rfl, by decide +kernel, rfl, by decide +kernel, by decide +kernel⟩
theorem ok_tuple {f : Addr} {fd : FuncData} (F : Fun K "is_tuple_within" "is_tuple_within" sTuple f fd) (T : Txt mg) : FnOk P w K mg base CX0 1 f fd ["thing", "least", "most"] spTuple := by
 refine F.ok scTuple (fun vs H Q E h => ?_) (fun cdv A outer s H vs Q E hr h => ?_)
 ·obtain ⟨v, lo, hi, rfl, _⟩ := h; rfl
 ·obtain ⟨v, lo, hi, rfl, k, q⟩ := h
  refine ⟨_, pss_one (ps_ret (pe_and (pe_callB call_isinst rfl T.isinstance boot_isinstance (pa_cons (pv 0) (pa_cons (pe_bltn (v := .ty "tuple") rfl T.tuple boot_tuple rfl) pa_nil)))
   (pe_one (pe_chain op_le op_le (pv 1) (pe_callB call_len_seq rfl T.len PySem.boot_len (pa_cons (pv 0) pa_nil)) (pv 2))))), ?_⟩
  obtain ⟨t, ty, _, _, k3⟩ := ty_of (K := K) k
  refine ⟨_, rfl, _, "tuple", t, _, rfl, ty, k3, _, rfl, iteB (fun e => ?_) fun e => ?_⟩
  ·obtain ⟨xs, ex⟩ := Option.isSome_iff_exists.mp e
   obtain ⟨a, rfl, ha⟩ := of_tupOf ex
   refine ⟨_, rfl, _, rfl, a, xs, rfl, .inr (SqT.of ha), _, _, rfl, rfl, _, rfl, ite2d (fun h1 => ?_) fun h1 => ?_⟩
   ·refine ⟨_, rfl, _, _, rfl, rfl, ?_⟩
    have : tupIn H lo hi (.ref a) = decide ((xs.length : Int) ≤ hi) := by simp [tupIn, ex, h1]
    rw [this] at q; exact q
   ·have : tupIn H lo hi (.ref a) = false := by simp [tupIn, ex, h1]
    rw [this] at q; exact q
  ·have : tupIn H lo hi v = false := by
    unfold tupIn
    cases z : tupOf H v with
    | none => rfl
    | some xs => rw [z] at e; cases e
   rw [this] at q; exact q
theorem scRow : FnScope ["thing"] ["thing"] (defScope sRow) := ⟨rfl, rfl, rfl, by decide +kernel, rfl, by decide +kernel, by decide +kernel⟩
theorem ok_row {f g1 g2 : Addr} {fd gd1 gd2 : FuncData} (F : Fun K "is_row" "is_row" sRow f fd) (T : Txt mg) (b1 : Binds K gd1 ["thing", "least", "most"] []) (m1 : mg "is_tuple_within" = some (.ref g1)) (p1 : PySem.W.keepIn K (.ref g1) = true) (G1 : FnOk P w K mg base CX0 1 g1 gd1 ["thing", "least", "most"] spTuple)
  (b2 : Binds K gd2 ["thing", "least", "most"] []) (m2 : mg "is_number_within" = some (.ref g2)) (p2 : PySem.W.keepIn K (.ref g2) = true) (G2 : FnOk P w K mg base CX0 2 g2 gd2 ["thing", "least", "most"] spWithin) : FnOk P w K mg base CX0 3 f fd ["thing"] spRow := by
 obtain ⟨t1, mCol⟩ := T.cols
 obtain ⟨t2, mWa⟩ := T.water
 obtain ⟨t3, mWo⟩ := T.worth
 refine F.ok scRow (fun vs H Q E h => ?_) (fun cdv A outer s H vs Q E hr h => ?_)
 ·obtain ⟨v, rfl, _⟩ := h; rfl
 ·obtain ⟨v, rfl, k, q⟩ := h
  refine ⟨_, pss_cons (ps_if (pt_not (pt_val (pe_call G1 (hr.mono (by decide)) rfl m1 p1 b1 .nil pass0 (pa_cons (pv 0) (pa_cons pe_int (pa_cons (pe_glob (v := .int 6) rfl mCol ⟨_, rfl⟩) pa_nil)))))) (pss_one (ps_ret pe_bl)) pss_nil)
   (pss_one (ps_ret (pe_callB (call_all rfl) rfl T.all boot_all (pa_cons (pe_comp1 (defScope sRow).names ["thing"] ["mark"] [] rfl (pi_tup (pv 0)) rfl rfl rfl (by decide +kernel)
    (fun Z => pg_name (i := 0) (show (["mark"] : List Str).Nodup by decide +kernel) rfl (Or.inl rfl)) (fun Z => pts_nil)
    (fun Z => pe_call G2 hr rfl m2 p2 b2 .nil pass0 (pa_cons (pv 0) (pa_cons (pe_glob (v := .int (-2)) rfl mWa ⟨_, rfl⟩) (pa_cons (pe_glob (v := .int 99) rfl mWo ⟨_, rfl⟩) pa_nil))))) pa_nil)))), ?_⟩
  refine ⟨_, rfl, v, 1, 6, rfl, k.le (by decide), _, rfl, iteB (fun e => ?_) fun e => ?_⟩
  ·have : rowOk H v = false := by
    rw [Bool.not_eq_true'] at e
    unfold tupIn at e; unfold rowOk
    cases z : tupOf H v with
    | none => rfl
    | some xs =>
     rw [z] at e
     dsimp only at e ⊢
     rw [Bool.and_eq_false_iff] at e ⊢
     left
     rw [Bool.and_eq_false_iff]
     rcases e with e | e
     ·left; rw [decide_eq_false_iff_not] at e ⊢; omega
     ·right; rw [decide_eq_false_iff_not] at e ⊢; omega
   have q' := q H (Same.refl H)
   rw [this] at q'; exact q'
  ·have e' : tupIn H 1 6 v = true := by simpa using e
   unfold tupIn at e'
   cases z : tupOf H v with
   | none => rw [z] at e'; cases e'
   | some xs =>
    rw [z] at e'
    obtain ⟨a, rfl, ha⟩ := of_tupOf z
    obtain ⟨hz, hk⟩ := k.items ha
    refine ⟨_, rfl, a, rfl, ⟨xs, SqT.of ha⟩, fun Z l hl => ?_⟩
    refine comp_map (fun x => .bl (numIn (-2) 99 x)) ha hl hz (fun x H' Q' hm hs hq => ?_) fun σ H' hs hl' => ?_
    ·exact ⟨_, rfl, x, -2, 99, rfl, (hk x hm).ext hs.ext, hq _ (Same.refl _)⟩
    ·refine ⟨l, xs.map (numIn (-2) 99), rfl, SqL.of (by rw [hl', List.map_map]; rfl), ?_⟩
     have : rowOk H (.ref a) = (xs.map (numIn (-2) 99)).all id := by
      unfold rowOk; rw [z]
      dsimp only at e' ⊢
      rw [Bool.and_eq_true, decide_eq_true_eq, decide_eq_true_eq] at e'
      rw [decide_eq_true (show 1 ≤ xs.length by omega), decide_eq_true (show xs.length ≤ 6 by omega), List.all_map]
      rfl
     have q' := q H' hs
     rw [this] at q'; exact q'
end
end M50
namespace L2
open PySem PySem.Spec PyProof.Rows
noncomputable def rowCells (at' : Nat) (xs : List V) : List (Int × Int) := xs.zipIdx.filterMap fun p => if nonneg p.1 then some ((at' : Int), (p.2 : Int)) else none
noncomputable def allCells (H : Hp) (rows : List V) : List (Int × Int) := (rows.zipIdx.map fun p => rowCells p.2 ((tupOf H p.1).getD [])).flatten
theorem zipIdx_take {α : Type} (xs : List α) (i : Nat) (x : α) (h : xs[i]? = some x) : (xs.take (i + 1)).zipIdx = (xs.take i).zipIdx ++ [(x, i)] := by
 have hlt : i < xs.length := (List.getElem?_eq_some_iff.mp h).1
 rw [List.take_succ, h, List.zipIdx_append]
 simp
 omega
theorem rowCells_succ (at' : Nat) (xs : List V) (i : Nat) (x : V) (h : xs[i]? = some x) : rowCells at' (xs.take (i + 1)) = rowCells at' (xs.take i) ++ (if nonneg x then [((at' : Int), (i : Int))] else []) := by
 unfold rowCells
 rw [zipIdx_take xs i x h, List.filterMap_append]
 congr 1
 by_cases hn : nonneg x = true
 ·simp [hn]
 ·simp [hn]
theorem allCells_succ (H : Hp) (rows : List V) (i : Nat) (r : V) (h : rows[i]? = some r) : allCells H (rows.take (i + 1)) = allCells H (rows.take i) ++ rowCells i ((tupOf H r).getD []) := by
 unfold allCells
 rw [zipIdx_take rows i r h, List.map_append, List.flatten_append]
 simp
theorem rowCells_length (at' : Nat) (xs : List V) : (rowCells at' xs).length = (xs.filter nonneg).length := by
 unfold rowCells
 have go : ∀ (xs : List V) (n : Nat), ((xs.zipIdx n).filterMap fun p => if nonneg p.1 then some ((at' : Int), (p.2 : Int)) else none).length = (xs.filter nonneg).length := by
  intro xs
  induction xs with
  | nil => intro n; rfl
  | cons x xs ih =>
   intro n
   rw [List.zipIdx_cons]
   by_cases hn : nonneg x = true
   ·rw [List.filterMap_cons_some (b := ((at' : Int), (n : Int))) (by simp [hn]), List.filter_cons_of_pos hn, List.length_cons, List.length_cons, ih]
   ·rw [List.filterMap_cons_none (by simp [hn]), List.filter_cons_of_neg hn, ih]
 exact go xs 0
theorem allCells_length (H : Hp) (rows : List V) : (allCells H rows).length = (rows.map (cellsIn H)).sum := by
 unfold allCells
 rw [List.length_flatten, List.map_map]
 have go : ∀ (rows : List V) (n : Nat), ((rows.zipIdx n).map (List.length ∘ fun p => rowCells p.2 ((tupOf H p.1).getD []))).sum = (rows.map (cellsIn H)).sum := by
  intro rows
  induction rows with
  | nil => intro n; rfl
  | cons r rows ih =>
   intro n
   rw [List.zipIdx_cons, List.map_cons, List.sum_cons, List.map_cons, List.sum_cons, ih]
   congr 1
   exact rowCells_length _ _
 exact go rows 0
noncomputable def PlAt (H : Hp) (ps : List Addr) (cs : List (Int × Int)) : Prop := Paired (fun p c => H p = some (.tup [.int c.1, .int c.2])) ps cs
theorem PlAt.same {H H' : Hp} {ps : List Addr} {cs : List (Int × Int)} (h : PlAt H ps cs) (s : Same H H') : PlAt H' ps cs := Paired.mapP h fun _ _ e => s _ _ e
theorem PlAt.snoc {H : Hp} {ps : List Addr} {cs : List (Int × Int)} {p : Addr} {c : Int × Int} (h : PlAt H ps cs) (e : H p = some (.tup [.int c.1, .int c.2])) : PlAt H (ps ++ [p]) (cs ++ [c]) := Paired.snoc h e
noncomputable def RowsAt (H : Hp) (rows : List V) : Prop := rows.length ≤ 4 ∧ ∀ r ∈ rows, ∃ b xs, r = .ref b ∧ H b = some (.tup xs) ∧ xs.length ≤ 6 ∧ ∀ x ∈ xs, ∃ i, x = .int i
theorem RowsAt.same {H H' : Hp} {rows : List V} (h : RowsAt H rows) (s : Same H H') : RowsAt H' rows := ⟨h.1, fun r hr => let ⟨b, xs, e, hb, hl, hx⟩ := h.2 r hr; ⟨b, xs, e, s _ _ hb, hl, hx⟩⟩
theorem comp_cells {K : PySem.W.Frag} {a l : Addr} {rows : List V} {H0 : Hp} {tt2 : TT} {Q : St → Hp → Prop} (ha : H0 a = some (.tup rows)) (hl : H0 l = none) (hr : RowsAt H0 rows)
  (htt : ∀ (at' k : Nat) (r : V) (i : Int) H' (Q' : Bool → Hp → Prop), Q' (nonneg (.int i)) H' → tt2 [some (.int at'), some r, some (.int k), some (.int i)] H' Q')
  (hQ : ∀ σ H' ps, Same H0 H' → H' l = some (.lst (ps.map V.ref)) → PlAt H' ps (allCells H0 rows) → Q σ H') :
  tForJ (Ite fun H xs => SqT K H a xs) (gTup K 2 (gCons (gName 0) (gCons (gName 1) gNil))) (tBodyC tAll (tNest (iEnumT K (tCons (tVar 1) tNil)) (gTup K 2 (gCons (gName 2) (gCons (gName 3) gNil))) tt2 (tEmit l (tTup (tCons (tVar 0) (tCons (tVar 2) tNil)))))) (eC Q) [none, none, none, none] (upd H0 l (.lst [])) := by
 have s0 : Same H0 (upd H0 l (.lst [])) := same_upd hl
 refine for_enum (xs := rows) (fun i σ H' => σ.length = 4 ∧ Same H0 H' ∧ ∃ ps, H' l = some (.lst (ps.map V.ref)) ∧ PlAt H' ps (allCells H0 (rows.take i)) ∧ ps.length ≤ 6 * i) ⟨rfl, s0, [], by rw [upd_same]; rfl, .nil, Nat.zero_le _⟩ (fun i σ H' _ h => SqT.of (h.2.1 _ _ ha)) ?_ ?_
 ·rintro i r p σ H' hx ⟨hσ, hs, ps, hl', hP, hn⟩ hp
  obtain ⟨b, xs, rfl, hb, hx6, hxi⟩ := hr.2 r (List.mem_of_getElem? hx)
  have hi4 : i < 4 := Nat.lt_of_lt_of_le (List.getElem?_eq_some_iff.mp hx).1 hr.1
  have s1 : Same H' (upd H' p (.tup [.int i, .ref b])) := same_upd hp
  have hb1 : tupOf H0 (.ref b) = some xs := tupOf_of hb
  match σ, hσ with
  | [x0, x1, x2, x3], _ =>
  refine ⟨p, _, rfl, SqT.of upd_same, rfl, _, _, rfl, _, _, rfl, rfl, ?_⟩
  refine body_all ?_
  refine ⟨_, rfl, b, xs, rfl, SqT.of (s1 _ _ (hs _ _ hb)), ?_⟩
  refine for_enum (xs := xs) (fun j σ H2 => (∃ y2 y3, σ = [some (.int i), some (.ref b), y2, y3]) ∧ Same H0 H2 ∧ ∃ ps, H2 l = some (.lst (ps.map V.ref)) ∧ PlAt H2 ps (allCells H0 (rows.take i) ++ rowCells i (xs.take j)) ∧ ps.length ≤ 6 * i + j) ?_ (fun j σ H2 _ h => SqT.of (h.2.1 _ _ hb)) ?_ ?_
  ·exact ⟨⟨x2, x3, rfl⟩, hs.trans s1, ps, s1 _ _ hl', by simpa [rowCells] using hP.same s1, hn⟩
  ·rintro j x p2 σ H2 hxj ⟨⟨y2, y3, rfl⟩, hs2, ps2, hl2, hP2, hn2⟩ hp2
   obtain ⟨z, rfl⟩ := hxi x (List.mem_of_getElem? hxj)
   have hj6 : j < 6 := Nat.lt_of_lt_of_le (List.getElem?_eq_some_iff.mp hxj).1 hx6
   have s2 : Same H2 (upd H2 p2 (.tup [.int j, .int z])) := same_upd hp2
   refine ⟨p2, _, rfl, SqT.of upd_same, rfl, _, _, rfl, _, _, rfl, rfl, ?_⟩
   refine htt i j (.ref b) z _ _ (iteB (fun e => ?_) fun e => ?_)
   ·refine ⟨_, rfl, _, rfl, (by show 2 ≤ sizeLine; decide), fun q hq => ?_⟩
    have s3 := same_upd (o := .tup [.int i, .int j]) hq
    have hlq : l ≠ q := ne_of_none (s2 _ _ hl2) hq
    refine ⟨_, s3 _ _ (s2 _ _ hl2), small1000 (by rw [List.length_map]; omega), ⟨_, _, rfl⟩, fun b' u e' => ?_, ps2 ++ [q], ?_, ?_, ?_⟩
    ·rw [upd_ne (ne_of_none e' hl)]; exact s3 _ _ (s2 _ _ (hs2 _ _ e'))
    ·rw [upd_same, List.map_append]; rfl
    ·have hne : ∀ b' u, (upd (upd H2 p2 (.tup [.int j, .int z])) q (.tup [.int i, .int j])) b' = some (.tup u) → (upd (upd (upd H2 p2 (.tup [.int j, .int z])) q (.tup [.int i, .int j])) l (.lst (ps2.map V.ref ++ [.ref q]))) b' = some (.tup u) := fun b' u e' => by
      rw [upd_ne (fun z' => ?_)]; exact e'
      rw [z', upd_ne hlq, s2 _ _ hl2] at e'; cases e'
     rw [rowCells_succ i xs j _ hxj, if_pos e, ← List.append_assoc]
     exact PlAt.snoc (Paired.mapP ((hP2.same s2).same s3) fun _ _ e' => hne _ _ e') (hne _ _ upd_same)
    ·rw [List.length_append]; show ps2.length + 1 ≤ _; omega
   ·refine ⟨⟨_, _, rfl⟩, hs2.trans s2, ps2, s2 _ _ hl2, ?_, by omega⟩
    rw [rowCells_succ i xs j _ hxj, if_neg (by rw [e]; decide), List.append_nil]
    exact hP2.same s2
  ·rintro σ H2 ⟨⟨y2, y3, rfl⟩, hs2, ps2, hl2, hP2, hn2⟩
   refine ⟨rfl, hs2, ps2, hl2, ?_, by omega⟩
   rw [List.take_of_length_le (Nat.le_refl _)] at hP2
   rw [allCells_succ H0 rows i _ hx, hb1]
   exact hP2
 ·rintro σ H' ⟨_, hs, ps, hl', hP, _⟩
  rw [List.take_of_length_le (Nat.le_refl _)] at hP
  exact hQ σ H' ps hs hl' hP
end L2
namespace M50
open PySem L2 PyProof.Rows
noncomputable def spPlaces : Sp := fun vs H Q _ => ∃ a rows, vs = [.ref a] ∧ H a = some (.tup rows) ∧ RowsAt H rows ∧ ∀ H' l ps, Same H H' → H' l = some (.lst (ps.map V.ref)) → PlAt H' ps (allCells H rows) → Q (.ref l) H'
section
variable {P : Program} {w : World} {K : PySem.W.Frag} {mg : Str → Option Value} {base : Heap}
theorem scPlaces : FnScope ["mead"] ["mead"] (defScope sPlaces) := ⟨rfl, rfl, rfl, by decide +kernel, rfl, by decide +kernel, by decide +kernel⟩
theorem nd4 : (["at", "row", "k", "mark"] : List Str).Nodup := by decide +kernel
theorem ok_places {f : Addr} {fd : FuncData} (F : Fun K "places_of_cells" "places_of_cells" sPlaces f fd) (T : Txt mg) : FnOk P w K mg base CX0 1 f fd ["mead"] spPlaces := by
 refine F.ok scPlaces (fun vs H Q E h => ?_) (fun cdv A outer s H vs Q E hr h => ?_)
 ·obtain ⟨a, rows, rfl, _⟩ := h; rfl
 ·obtain ⟨a, rows, rfl, ha, hR, q⟩ := h
  refine ⟨_, pss_one (ps_ret (pe_comp2 (defScope sPlaces).names ["mead"] ["at", "row", "k", "mark"] [] rfl (pi_enumT rfl rfl T.enumerate (pa_cons (pv 0) pa_nil)) rfl rfl rfl (by decide +kernel)
   (fun Z => pg_tup rfl (pgs_cons (pg_name (i := 0) nd4 rfl (Or.inl rfl)) (pgs_cons (pg_name (i := 1) nd4 rfl (Or.inl rfl)) pgs_nil))) (fun Z => pts_nil)
   (fun Z => pi_enumT rfl rfl T.enumerate (pa_cons (pv 1) pa_nil)) (fun Z => pg_tup rfl (pgs_cons (pg_name (i := 2) nd4 rfl (Or.inl rfl)) (pgs_cons (pg_name (i := 3) nd4 rfl (Or.inl rfl)) pgs_nil)))
   (fun Z => pts_one (pt_cmpR op_ge (pv 3) pe_int (nomark _))) (fun Z => pe_tup (pa_cons (pv 0) (pa_cons (pv 2) pa_nil))))), ?_⟩
  refine ⟨_, rfl, a, rows, rfl, SqT.of ha, fun Z l hl => ?_⟩
  exact comp_cells ha hl hR (fun at' k r i H' Q' hq => ⟨_, rfl, _, _, rfl, rfl, _, rfl, hq⟩) fun σ H' ps hs hl' hP => q H' l ps hs hl' hP
theorem scMead : FnScope ["thing"] ["thing"] (defScope sMead) := ⟨rfl, rfl, rfl, by decide +kernel, rfl, by decide +kernel, by decide +kernel⟩
theorem rowOk_num {H : Hp} {v : V} (h : rowOk H v = true) : ∃ b xs, v = .ref b ∧ H b = some (.tup xs) ∧ xs.length ≤ 6 ∧ ∀ x ∈ xs, ∃ i, x = .int i := by
 unfold rowOk at h
 cases e : tupOf H v with
 | none => rw [e] at h; cases h
 | some xs =>
  rw [e] at h
  obtain ⟨b, rfl, hb⟩ := of_tupOf e
  simp only [Bool.and_eq_true, decide_eq_true_eq, List.all_eq_true] at h
  refine ⟨b, xs, rfl, hb, h.1.2, fun x hx => ?_⟩
  have := h.2 x hx
  cases x <;> first | exact ⟨_, rfl⟩ | cases this
theorem ok_mead {f g1 g2 g3 : Addr} {fd gd1 gd2 gd3 : FuncData} (F : Fun K "is_mead" "is_mead" sMead f fd) (T : Txt mg) (b1 : Binds K gd1 ["thing", "least", "most"] []) (m1 : mg "is_tuple_within" = some (.ref g1)) (p1 : PySem.W.keepIn K (.ref g1) = true) (G1 : FnOk P w K mg base CX0 1 g1 gd1 ["thing", "least", "most"] spTuple)
  (b2 : Binds K gd2 ["thing"] []) (m2 : mg "is_row" = some (.ref g2)) (p2 : PySem.W.keepIn K (.ref g2) = true) (G2 : FnOk P w K mg base CX0 3 g2 gd2 ["thing"] spRow)
  (b3 : Binds K gd3 ["mead"] []) (m3 : mg "places_of_cells" = some (.ref g3)) (p3 : PySem.W.keepIn K (.ref g3) = true) (G3 : FnOk P w K mg base CX0 1 g3 gd3 ["mead"] spPlaces) : FnOk P w K mg base CX0 4 f fd ["thing"] spMead := by
 obtain ⟨t1, mRow⟩ := T.rows
 obtain ⟨t2, mCel⟩ := T.cells
 refine F.ok scMead (fun vs H Q E h => ?_) (fun cdv A outer s H vs Q E hr h => ?_)
 ·obtain ⟨v, rfl, _⟩ := h; rfl
 ·obtain ⟨v, rfl, k, q⟩ := h
  refine ⟨_, pss_cons (ps_if (pt_not (pt_val (pe_call G1 (hr.mono (by decide)) rfl m1 p1 b1 .nil pass0 (pa_cons (pv 0) (pa_cons pe_int (pa_cons (pe_glob (v := .int 4) rfl mRow ⟨_, rfl⟩) pa_nil)))))) (pss_one (ps_ret pe_bl)) pss_nil)
   (pss_cons (ps_if (pt_not (pt_val (pe_callB (call_all rfl) rfl T.all boot_all (pa_cons (pe_comp1 (defScope sMead).names ["thing"] ["row"] [] rfl (pi_tup (pv 0)) rfl rfl rfl (by decide +kernel)
    (fun Z => pg_name (i := 0) (show (["row"] : List Str).Nodup by decide +kernel) rfl (Or.inl rfl)) (fun Z => pts_nil) (fun Z => pe_call G2 hr rfl m2 p2 b2 .nil pass0 (pa_cons (pv 0) pa_nil))) pa_nil)))) (pss_one (ps_ret pe_bl)) pss_nil)
   (pss_cons (ps_if (pt_not (pt_val (pe_callB (call_all rfl) rfl T.all boot_all (pa_cons (pe_comp1 (defScope sMead).names ["thing"] ["row"] [("thing", 0)] rfl (pi_tup (pv 0)) rfl rfl rfl (by decide +kernel)
    (fun Z => pg_name (i := 0) (show (["row", "thing"] : List Str).Nodup by decide +kernel) rfl (Or.inl rfl)) (fun Z => pts_nil)
    (fun Z => pe_cmpR op_eq (pe_callB call_len_seq rfl T.len PySem.boot_len (pa_cons (pv 0) pa_nil)) (pe_callB call_len_seq rfl T.len PySem.boot_len (pa_cons (pe_ix ix_tup (pv 1) pe_int (fun _ _ => rfl)) pa_nil)) (nomark _))) pa_nil)))) (pss_one (ps_ret pe_bl)) pss_nil)
   (pss_one (ps_ret (pe_chain op_le op_le pe_int (pe_callB call_len_seq rfl T.len PySem.boot_len (pa_cons (pe_call G3 (hr.mono (by decide)) rfl m3 p3 b3 .nil pass0 (pa_cons (pv 0) pa_nil)) pa_nil)) (pe_glob (v := .int 10) rfl mCel ⟨_, rfl⟩)))))), ?_⟩
  refine ⟨_, rfl, v, 1, 4, rfl, k.le (by decide), _, rfl, iteB (fun e => ?_) fun e => ?_⟩
  ·have : goodM H v = false := by
    rw [Bool.not_eq_true'] at e
    unfold tupIn at e; unfold goodM
    cases z : tupOf H v with
    | none => rfl
    | some xs =>
     rw [z] at e
     dsimp only at e ⊢
     rw [Bool.and_eq_false_iff] at e
     simp only [Bool.and_eq_false_iff]
     left; left; left
     rcases e with e | e
     ·left; rw [decide_eq_false_iff_not] at e ⊢; omega
     ·right; rw [decide_eq_false_iff_not] at e ⊢; omega
   have q' := q H (Same.refl H)
   rw [this] at q'; exact q'
  ·have e' : tupIn H 1 4 v = true := by simpa using e
   unfold tupIn at e'
   cases z : tupOf H v with
   | none => rw [z] at e'; cases e'
   | some rows =>
    rw [z] at e'
    dsimp only at e'
    rw [Bool.and_eq_true, decide_eq_true_eq, decide_eq_true_eq] at e'
    obtain ⟨a, rfl, ha⟩ := of_tupOf z
    obtain ⟨hz, hk⟩ := k.items ha
    have g0 : goodM H (.ref a) = (rows.all (rowOk H) && rows.all (fun r => decide (lenOf H r = lenOf H (rows.headD .non))) && (decide (1 ≤ (rows.map (cellsIn H)).sum) && decide ((rows.map (cellsIn H)).sum ≤ 10))) := by
     unfold goodM; rw [z]
     dsimp only
     rw [decide_eq_true (show 1 ≤ rows.length by omega), decide_eq_true (show rows.length ≤ 4 by omega)]
     rfl
    -- all rows
    refine ⟨_, rfl, a, rfl, ⟨rows, SqT.of ha⟩, fun Z l hl => ?_⟩
    refine comp_map (fun x => .bl (rowOk H x)) ha hl hz (fun x H' Q' hm hs hq => ?_) fun σ H1 hs1 hl1 => ?_
    ·refine ⟨_, rfl, x, rfl, (hk x hm).ext hs.ext, fun H2 h2 => ?_⟩
     rw [hs.rowOk ((hk x hm).le (by decide))]
     exact hq _ h2
    ·refine ⟨l, rows.map (rowOk H), rfl, SqL.of (by rw [hl1, List.map_map]; rfl), _, rfl, ?_⟩
     have ea : (rows.map (rowOk H)).all id = rows.all (rowOk H) := by rw [List.all_map]; rfl
     rw [ea]
     refine iteB (fun e2 => ?_) fun e2 => ?_
     ·have q' := q H1 hs1
      have e3 : rows.all (rowOk H) = false := by simpa using e2
      rw [g0, e3] at q'; exact q'
     ·have e3 : rows.all (rowOk H) = true := by simpa using e2
      rw [e3] at g0
      have hr2 : ∀ r ∈ rows, ∃ b xs, r = .ref b ∧ H b = some (.tup xs) ∧ xs.length ≤ 6 ∧ ∀ x ∈ xs, ∃ i, x = .int i := fun r hr' => rowOk_num (List.all_eq_true.mp e3 r hr')
      have hR : RowsAt H rows := ⟨by omega, hr2⟩
      have hne : rows ≠ [] := fun z => by rw [z] at e'; simp at e'
      obtain ⟨r0, rs, er⟩ := List.exists_cons_of_ne_nil hne
      have ha1 := hs1 _ _ ha
      refine ⟨_, rfl, a, rfl, ⟨rows, SqT.of ha1⟩, fun Z2 l2 hl2 => ?_⟩
      refine comp_map (rest := [some (.ref a)]) (fun x => .bl (decide (lenOf H x = lenOf H (rows.headD .non)))) ha1 hl2 hz (fun x H' Q' hm hs hq => ?_) fun σ H2 hs2 hl2' => ?_
      ·obtain ⟨b, xs, rfl, hb, _⟩ := hr2 x hm
       obtain ⟨b0, xs0, e0, hb0, _⟩ := hr2 r0 (by rw [er]; exact List.mem_cons_self)
       have hsH := hs1.trans hs
       refine ⟨_, rfl, b, xs, rfl, .inr (SqT.of (hsH _ _ hb)), _, rfl, a, rows, 0, r0, rfl, rfl, SqT.of (hsH _ _ ha), ?_, b0, xs0, by rw [e0], .inr (SqT.of (hsH _ _ hb0)), rfl, ?_⟩
       ·rw [er]; exact atI_nat (j := 0) rfl
       ·have : decide (V.int (xs.length : Int) = V.int (xs0.length : Int)) = decide (lenOf H (.ref b) = lenOf H (rows.headD .non)) := by
         rw [er]
         show _ = decide (lenOf H (.ref b) = lenOf H r0)
         rw [e0]
         unfold lenOf
         rw [tupOf_of hb, tupOf_of hb0]
         show _ = decide (xs.length = xs0.length)
         by_cases h : xs.length = xs0.length
         ·rw [decide_eq_true h, h]; simp
         ·rw [decide_eq_false h, decide_eq_false]
          intro z; apply h
          have := V.int.inj z
          omega
        rw [this]
        exact hq _ (Same.refl _)
      ·have hs12 := hs1.trans hs2
       refine ⟨l2, rows.map (fun r => decide (lenOf H r = lenOf H (rows.headD .non))), rfl, SqL.of (by rw [hl2', List.map_map]; rfl), _, rfl, ?_⟩
       have ea : (rows.map (fun r => decide (lenOf H r = lenOf H (rows.headD .non)))).all id = rows.all (fun r => decide (lenOf H r = lenOf H (rows.headD .non))) := by rw [List.all_map]; rfl
       rw [ea]
       refine iteB (fun e4 => ?_) fun e4 => ?_
       ·have q' := q H2 hs12
        have e5 : rows.all (fun r => decide (lenOf H r = lenOf H (rows.headD .non))) = false := by simpa using e4
        rw [g0, e5] at q'; exact q'
       ·have e5 : rows.all (fun r => decide (lenOf H r = lenOf H (rows.headD .non))) = true := by simpa using e4
        rw [e5] at g0
        refine ⟨_, rfl, a, rows, rfl, hs12 _ _ ha, hR.same hs12, fun H3 l3 ps hs3 hl3 hP => ?_⟩
        have hlen : ps.length = (rows.map (cellsIn H)).sum := by
         rw [← allCells_length]
         have e6 : allCells H2 rows = allCells H rows := by
          unfold allCells
          congr 1
          refine List.map_congr_left fun p hp => ?_
          have hm : p.1 ∈ rows := by
           obtain ⟨i, hi, e⟩ := List.getElem_of_mem hp
           rw [List.getElem_zipIdx] at e
           rw [← e]; exact List.getElem_mem _
          rw [hs12.tupOf ((hk _ hm).le (by decide))]
         rw [← e6]
         exact Paired.length hP
        refine ⟨l3, ps.map V.ref, rfl, .inl (SqL.of hl3), _, _, rfl, rfl, _, rfl, ite2d (fun h1 => ?_) fun h1 => ?_⟩
        ·refine ⟨_, _, rfl, rfl, ?_⟩
         have q' := q H3 (hs12.trans hs3)
         rw [g0, decide_eq_true (show 1 ≤ (rows.map (cellsIn H)).sum by rw [← hlen]; rw [List.length_map] at h1; omega)] at q'
         have : decide (((ps.map V.ref).length : Int) ≤ 10) = decide ((rows.map (cellsIn H)).sum ≤ 10) := by
          rw [List.length_map, hlen]
          by_cases h : (rows.map (cellsIn H)).sum ≤ 10
          ·rw [decide_eq_true h, decide_eq_true]; omega
          ·rw [decide_eq_false h, decide_eq_false]; omega
         rw [← this] at q'; exact q'
        ·have q' := q H3 (hs12.trans hs3)
         rw [g0, decide_eq_false (show ¬ 1 ≤ (rows.map (cellsIn H)).sum by rw [← hlen]; rw [List.length_map] at h1; omega)] at q'
         exact q'
end
end M50
namespace M50
open PySem L2 PyProof.Rows
noncomputable abbrev sCell : Stmt := top 54
noncomputable abbrev sPen : Stmt := top 55
noncomputable abbrev sDraw : Stmt := top 56
noncomputable def spCell (K : PySem.W.Frag) : Sp := fun vs H Q _ => ∃ a ns k, vs = [.ref a, .int k] ∧ SqL K H a ((ns : List Int).map V.int) ∧ 0 ≤ k ∧ ∀ i, Q (.int i) H
noncomputable def spPen : Sp := fun vs H Q _ => ∃ i : Int, vs = [.int i] ∧ ∀ p H', H p = none → Same H H' → PenAt H' p → Q (.ref p) H'
noncomputable def spDraw : Sp := fun vs H Q _ => ∃ p m, vs = [.ref p, .int m] ∧ PenAt H p ∧ 0 < m ∧ m < 1000000 ∧ ∀ d H', 0 ≤ d → d < m → Stp p H H' → Q (.int d) H'
section
variable {P : Program} {w : World} {K : PySem.W.Frag} {mg : Str → Option Value} {base : Heap}
theorem scCell : FnScope ["_law_script", "_law_k"] ["_law_script", "_law_k"] (defScope sCell) := ⟨rfl, rfl, rfl, by decide +kernel, rfl, by decide +kernel, by decide +kernel⟩
theorem ok_cell {f : Addr} {fd : FuncData} (F : Fun K "_law_cell" "_law_cell" sCell f fd) (T : Txt mg) : FnOk P w K mg base CX0 1 f fd ["_law_script", "_law_k"] (spCell K) := by
 refine F.ok scCell (fun vs H Q E h => ?_) (fun cdv A outer s H vs Q E hr h => ?_)
 ·obtain ⟨a, ns, k, rfl, _⟩ := h; rfl
 ·obtain ⟨a, ns, k, rfl, ha, hk, q⟩ := h
  refine ⟨_, pss_cons (ps_if (pt_cmpR op_lt (pv 1) (pe_callB call_len_seq rfl T.len PySem.boot_len (pa_cons (pv 0) pa_nil)) (nomark _)) (pss_one (ps_ret (pe_ix ix_list (pv 0) (pv 1) (fun _ _ => rfl)))) pss_nil) (pss_one (ps_ret pe_int)), ?_⟩
  refine ⟨_, rfl, _, rfl, a, _, rfl, .inl ha, _, _, rfl, rfl, _, rfl, ite2d (fun h1 => ?_) fun h1 => q 0⟩
  rw [List.length_map] at h1
  obtain ⟨n, rfl⟩ := Int.eq_ofNat_of_zero_le hk
  have hlt : n < ns.length := by omega
  exact ⟨_, rfl, _, rfl, a, _, n, .int ns[n], rfl, rfl, ha, atI_nat (by rw [List.getElem?_map]; simp [hlt]), q _⟩
theorem scPen : FnScope ["_law_cell_here"] ["_law_cell_here"] (defScope sPen) := ⟨rfl, rfl, rfl, by decide +kernel, rfl, by decide +kernel, by decide +kernel⟩
theorem ok_pen {f : Addr} {fd : FuncData} (F : Fun K "_law_pen" "_law_pen" sPen f fd) (T : Txt mg) : FnOk P w K mg base CX0 1 f fd ["_law_cell_here"] spPen := by
 refine F.ok scPen (fun vs H Q E h => ?_) (fun cdv A outer s H vs Q E hr h => ?_)
 ·obtain ⟨i, rfl, _⟩ := h; rfl
 ·obtain ⟨i, rfl, q⟩ := h
  refine ⟨_, pss_one (ps_ret (pe_lst (pa_cons (pv 0) (pa_cons (pe_callTy call_int1 rfl T.int boot_int (pa_cons (pe_cmpR op_ge (pv 0) (pe_op op_pow pe_int pe_int) (nomark _)) pa_nil)) pa_nil)))), ?_⟩
  refine ⟨_, rfl, _, rfl, _, _, rfl, rfl, ⟨by decide, by decide, by decide⟩, _, _, rfl, rfl, .inr ⟨_, rfl, ?_⟩⟩
  refine ⟨by show 2 ≤ sizeLine; decide, fun l hl => ?_⟩
  exact q l _ hl (same_upd hl) ⟨_, _, upd_same⟩
theorem scDraw : FnScope ["_law_pen_here", "_law_many", "_law_digit"] ["_law_pen_here", "_law_many"] (defScope sDraw) := ⟨rfl, rfl, rfl, by decide +kernel, rfl, by decide +kernel, by decide +kernel⟩
theorem ok_draw {f : Addr} {fd : FuncData} (F : Fun K "_law_draw" "_law_draw" sDraw f fd) (T : Txt mg) : FnOk P w K mg base CX0 1 f fd ["_law_pen_here", "_law_many"] spDraw := by
 refine F.ok scDraw (fun vs H Q E h => ?_) (fun cdv A outer s H vs Q E hr h => ?_)
 ·obtain ⟨p, m, rfl, _⟩ := h; rfl
 ·obtain ⟨p, m, rfl, ⟨x, f1, hp⟩, h0, h1, q⟩ := h
  refine ⟨_, pss_cons (ps_if (pt_cmpR op_eq (pe_ix ix_list (pv 0) pe_int (fun _ _ => rfl)) pe_int (nomark _))
    (pss_cons (ps_set (i := 2) scDraw.nd rfl (Or.inl rfl) (pe_op op_mod (pe_ix ix_list (pv 0) pe_int (fun _ _ => rfl)) (pv 1)))
    (pss_cons (ps_asg (pe_op op_fdiv (pe_ix ix_list (pv 0) pe_int (fun _ _ => rfl)) (pv 1)) (pg_sub (pv 0) pe_int set_list))
    (pss_one (ps_ret (pv 2))))) pss_nil)
   (pss_cons (ps_asg (pe_op op_mod (pe_op op_add (pe_op op_mul (pe_op op_mod (pe_ix ix_list (pv 0) pe_int (fun _ _ => rfl)) pe_int) pe_int) pe_int) pe_int) (pg_sub (pv 0) pe_int set_list))
   (pss_one (ps_ret (pe_op op_mod (pe_op op_fdiv (pe_op op_mod (pe_op op_add (pe_op op_mul (pe_ix ix_list (pv 0) pe_int (fun _ _ => rfl)) (pe_ix ix_list (pv 0) pe_int (fun _ _ => rfl))) (pe_op op_mul pe_int (pe_ix ix_list (pv 0) pe_int (fun _ _ => rfl)))) pe_int) pe_int) (pv 1))))), ?_⟩
  refine ⟨_, rfl, p, _, 1, _, rfl, rfl, SqL.of hp, atI_nat (j := 1) rfl, rfl, _, rfl, ite2d (fun _ => ?_) fun _ => ?_⟩
  ·refine ⟨_, rfl, p, _, 0, _, rfl, rfl, SqL.of hp, atI_nat (j := 0) rfl, _, rfl, _, _, rfl, rfl, h0, ?_⟩
   refine ⟨_, rfl, p, _, 0, _, rfl, rfl, SqL.of hp, atI_nat (j := 0) rfl, _, rfl, _, _, rfl, rfl, ⟨h0, by omega⟩, ?_⟩
   refine ⟨_, rfl, p, _, 0, 0, rfl, rfl, hp, rfl, ?_⟩
   refine ⟨_, rfl, ?_⟩
   exact q _ _ (Int.emod_nonneg _ (by omega)) (Int.emod_lt_of_pos _ h0) ⟨⟨_, _, upd_same⟩, fun b o hb e => by rw [upd_ne hb]; exact e⟩
  ·have hm : ∀ y : Int, 0 ≤ y % 2147483629 ∧ y % 2147483629 < 2147483629 := fun y => ⟨Int.emod_nonneg _ (by omega), Int.emod_lt_of_pos _ (by omega)⟩
   have b1 := hm x
   have b2 := hm (x % 2147483629 * 48271 + 11)
   refine ⟨_, rfl, p, _, 0, _, rfl, rfl, SqL.of hp, atI_nat (j := 0) rfl, _, _, rfl, rfl, (by show (0 : Int) < 2147483629; decide), _, _, rfl, rfl, .inl ⟨by omega, by omega⟩, _, _, rfl, rfl, _, _, rfl, rfl, (by show (0 : Int) < 2147483629; decide), ?_⟩
   refine ⟨_, rfl, p, _, 0, 0, rfl, rfl, hp, rfl, ?_⟩
   refine ⟨_, rfl, p, _, 0, _, rfl, rfl, SqL.of upd_same, atI_nat (j := 0) rfl, _, rfl, p, _, 0, _, rfl, rfl, SqL.of upd_same, atI_nat (j := 0) rfl, _, _, rfl, rfl, .inl ⟨by omega, by omega⟩, ?_⟩
   refine ⟨_, rfl, p, _, 0, _, rfl, rfl, SqL.of upd_same, atI_nat (j := 0) rfl, _, _, rfl, rfl, .inl ⟨by decide, by decide⟩, _, _, rfl, rfl, _, _, rfl, rfl, (by show (0 : Int) < 2147483647; decide), _, _, rfl, rfl, ⟨by decide, by decide⟩, _, rfl, _, _, rfl, rfl, h0, ?_⟩
   exact q _ _ (Int.emod_nonneg _ (by omega)) (Int.emod_lt_of_pos _ h0) ⟨⟨_, _, upd_same⟩, fun b o hb e => by rw [upd_ne hb]; exact e⟩
end
end M50
namespace L2
open PySem PySem.Spec PyProof.Rows
section
variable {X : Cx} {pins : List (Addr × Obj)} {σ : St} {H : Hp} {s : Shared}
end
section
variable {X : Cx} {es : List Expr} {te : TE} {t : TA}
theorem pa_c {c j pos} (he : PE X (.Constant c j pos) te) (hr : PA X es t) : PA X (.Constant c j pos :: es) (tCons te t) := pa_cons he hr rfl
theorem pa_v {x pos} (he : PE X (.Name x pos) te) (hr : PA X es t) : PA X (.Name x pos :: es) (tCons te t) := pa_cons he hr rfl
theorem pa_b {a o b pos} (he : PE X (.BinOp a o b pos) te) (hr : PA X es t) : PA X (.BinOp a o b pos :: es) (tCons te t) := pa_cons he hr rfl
theorem pa_u {o b pos} (he : PE X (.UnaryOp o b pos) te) (hr : PA X es t) : PA X (.UnaryOp o b pos :: es) (tCons te t) := pa_cons he hr rfl
theorem pa_k {f a k pos} (he : PE X (.Call f a k pos) te) (hr : PA X es t) : PA X (.Call f a k pos :: es) (tCons te t) := pa_cons he hr rfl
theorem pa_t {a k pos} (he : PE X (.Tuple a k pos) te) (hr : PA X es t) : PA X (.Tuple a k pos :: es) (tCons te t) := pa_cons he hr rfl
theorem pa_l {a pos} (he : PE X (.List a pos) te) (hr : PA X es t) : PA X (.List a pos :: es) (tCons te t) := pa_cons he hr rfl
theorem pa_s {a b pos} (he : PE X (.Subscript a b pos) te) (hr : PA X es t) : PA X (.Subscript a b pos :: es) (tCons te t) := pa_cons he hr rfl
theorem pa_m {a b c pos} (he : PE X (.Compare a b c pos) te) (hr : PA X es t) : PA X (.Compare a b c pos :: es) (tCons te t) := pa_cons he hr rfl
theorem pa_lc {a b c pos} (he : PE X (.ListComp a b c pos) te) (hr : PA X es t) : PA X (.ListComp a b c pos :: es) (tCons te t) := pa_cons he hr rfl
end
@[irreducible] def PAq (X : Cx) (es : List Expr) (t : TA) : Prop := PA X es t
section
variable {X : Cx} {es : List Expr} {te : TE} {t : TA}
theorem pa_q (h : PAq X es t) : PA X es t := by unfold PAq at h; exact h
theorem pq_nil : PAq X [] tNil := by unfold PAq; exact pa_nil
theorem pq_b {a o b pos} (he : PE X (.BinOp a o b pos) te) (hr : PAq X es t) : PAq X (.BinOp a o b pos :: es) (tCons te t) := by unfold PAq at *; exact pa_b he hr
end
@[irreducible] def PSsq (X : Cx) (st : List Stmt) (t : TS) : Prop := PSs X st t
section
variable {X : Cx} {es : List Expr} {t : TA} {tb : TE} {b : Expr} {p1 p2 p3 pos : Pos}
end
@[irreducible] def PEq (X : Cx) (e : Expr) (t : TE) : Prop := PE X e t
@[irreducible] def PSq (X : Cx) (st : Stmt) (t : TS) : Prop := PS X st t
section
variable {X : Cx} {es : List Expr} {t : TA} {te tb : TE} {b e : Expr} {p1 p2 p3 pos : Pos}
end
section
variable {X : Cx} {es : List Expr} {t : TA} {te : TE} {e : Expr} {p1 p3 : Pos}
theorem tupq {k} (h : PAq X es t) : PEq X (.Tuple es k p1) (tTup t) := by unfold PEq; exact pe_tup (pa_q h)
theorem lstq (h : PAq X es t) : PEq X (.List es p1) (tLst t) := by unfold PEq; exact pe_lst (pa_q h)
theorem pq_tq {a k pos} (he : PEq X (.Tuple a k pos) te) (hr : PAq X es t) : PAq X (.Tuple a k pos :: es) (tCons te t) := by unfold PEq at he; unfold PAq at *; exact pa_t he hr
theorem retE (h : PEq X e te) : PSsq X [.Return (some e) p3] (tRet te) := by unfold PEq at h; unfold PSsq; exact pss_one (ps_ret h)
theorem pss_cons2q {st : Stmt} {rest : List Stmt} {t u : TS} (h1 : PS X st t) (h2 : PSsq X rest u) : PSs X (st :: rest) (tSeq t u) := by unfold PSsq at h2; exact pss_cons h1 h2
end
end L2
namespace L2
open PySem PySem.Spec PyProof.Rows
theorem Ext.updL {H : Hp} {l : Addr} {xs ys : List V} (h : H l = some (.lst xs)) : Ext H (upd H l (.lst ys)) where
 tup := fun a zs e => by rw [upd_ne (ne_of e h (by simp))]; exact e
 lst := fun a zs e => by
  by_cases ha : a = l
  ·exact ⟨ys, by rw [ha, upd_same]⟩
  ·exact ⟨zs, by rw [upd_ne ha]; exact e⟩
 dct := fun a zs e => by rw [upd_ne (ne_of e h (by simp))]; exact e
theorem Stp.updL {p l : Addr} {H H1 : Hp} {ys : List V} (s : Stp p H H1) (hl : H l = none) (hp : PenAt H p) : Stp p H (upd H1 l (.lst ys)) := by
 obtain ⟨x, f, e⟩ := hp
 have hne : p ≠ l := ne_of_none e hl
 obtain ⟨x', f', e'⟩ := s.pen
 exact ⟨⟨x', f', by rw [upd_ne hne]; exact e'⟩, fun b o hb h => by rw [upd_ne (ne_of_none h hl)]; exact s.keep b o hb h⟩
end L2
namespace Grd
noncomputable abbrev Grid := List (List Int)
noncomputable def pos (n : Int) : Bool := decide (0 ≤ n)
noncomputable def rowF (f : Int → Bool) (r : Int) (xs : List Int) : List (Int × Int) := xs.zipIdx.filterMap fun q => if f q.1 then some (r, (q.2 : Int)) else none
noncomputable def gridF (f : Int → Bool) (g : Grid) : List (Int × Int) := (g.zipIdx.map fun p => rowF f p.2 p.1).flatten
noncomputable def atG (g : Grid) (c : Int × Int) : Int := (g.getD c.1.toNat []).getD c.2.toNat 0
noncomputable def cntR (xs : List Int) : Nat := (xs.filter pos).length
noncomputable def cntG (g : Grid) : Nat := (g.map cntR).sum
structure Good (g : Grid) (w : Nat) : Prop where
 h1 : 1 ≤ g.length
 h4 : g.length ≤ 4
 w1 : 1 ≤ w
 w5 : w ≤ 5
 len : ∀ xs ∈ g, xs.length = w
 num : ∀ xs ∈ g, ∀ n ∈ xs, -2 ≤ n ∧ n ≤ 99
 c1 : 1 ≤ cntG g
 c10 : cntG g ≤ 10
theorem zipIdx_take {α : Type} (xs : List α) (i : Nat) (x : α) (h : xs[i]? = some x) : (xs.take (i + 1)).zipIdx = (xs.take i).zipIdx ++ [(x, i)] := by
 have hlt : i < xs.length := (List.getElem?_eq_some_iff.mp h).1
 rw [List.take_succ, h, List.zipIdx_append]
 simp
 omega
theorem rowF_succ (f : Int → Bool) (r : Int) (xs : List Int) (i : Nat) (x : Int) (h : xs[i]? = some x) : rowF f r (xs.take (i + 1)) = rowF f r (xs.take i) ++ if f x then [(r, (i : Int))] else [] := by
 unfold rowF
 rw [zipIdx_take xs i x h, List.filterMap_append]
 congr 1
 cases hf : f x <;> simp [hf]
theorem gridF_succ (f : Int → Bool) (g : Grid) (i : Nat) (xs : List Int) (h : g[i]? = some xs) : gridF f (g.take (i + 1)) = gridF f (g.take i) ++ rowF f i xs := by
 unfold gridF
 rw [zipIdx_take g i xs h, List.map_append, List.flatten_append]
 simp
theorem cntR_succ (xs : List Int) (x : Int) : cntR (xs ++ [x]) = cntR xs + if pos x then 1 else 0 := by
 unfold cntR
 rw [List.filter_append, List.length_append]
 cases hp : pos x <;> simp [hp]
theorem cntG_succ (g : Grid) (xs : List Int) : cntG (g ++ [xs]) = cntG g + cntR xs := by
 unfold cntG
 rw [List.map_append, List.sum_append]
 simp
theorem mem_rowF {f : Int → Bool} {r : Int} {xs : List Int} {c : Int × Int} : c ∈ rowF f r xs ↔ c.1 = r ∧ ∃ j x, c.2 = (j : Nat) ∧ xs[j]? = some x ∧ f x = true := by
 unfold rowF
 rw [List.mem_filterMap]
 constructor
 ·rintro ⟨⟨x, j⟩, hm, e⟩
  have hx := List.mem_zipIdx_iff_getElem?.mp hm
  cases hf : f x with
  | true =>
   simp only [hf, if_true, Option.some.injEq] at e
   subst e
   exact ⟨rfl, j, x, rfl, hx, hf⟩
  | false => simp [hf] at e
 ·rintro ⟨e1, j, x, e2, hx, hf⟩
  refine ⟨(x, j), List.mem_zipIdx_iff_getElem?.mpr hx, ?_⟩
  simp only [hf, if_true, Option.some.injEq]
  exact Prod.ext e1.symm e2.symm
theorem mem_gridF {f : Int → Bool} {g : Grid} {c : Int × Int} : c ∈ gridF f g ↔ ∃ (i j : Nat) (xs : List Int) (x : Int), c = ((i : Int), (j : Int)) ∧ g[i]? = some xs ∧ xs[j]? = some x ∧ f x = true := by
 unfold gridF
 rw [List.mem_flatten]
 constructor
 ·rintro ⟨l, hl, hc⟩
  obtain ⟨⟨xs, i⟩, hm, rfl⟩ := List.mem_map.mp hl
  obtain ⟨e1, j, x, e2, hx, hf⟩ := mem_rowF.mp hc
  exact ⟨i, j, xs, x, Prod.ext e1 e2, List.mem_zipIdx_iff_getElem?.mp hm, hx, hf⟩
 ·rintro ⟨i, j, xs, x, rfl, hg, hx, hf⟩
  exact ⟨rowF f i xs, List.mem_map.mpr ⟨(xs, i), List.mem_zipIdx_iff_getElem?.mpr hg, rfl⟩, mem_rowF.mpr ⟨rfl, j, x, rfl, hx, hf⟩⟩
theorem atG_of {g : Grid} {i j : Nat} {xs : List Int} {x : Int} (h1 : g[i]? = some xs) (h2 : xs[j]? = some x) : atG g ((i : Int), (j : Int)) = x := by
 unfold atG
 simp [List.getD_eq_getElem?_getD, h1, h2]
theorem row_vals {r : Int} : ∀ (pre xs : List Int) (v : Int × Int → Int), (∀ j x, xs[j]? = some x → v (r, ((pre.length + j : Nat) : Int)) = x) → (((xs.zipIdx pre.length).filterMap fun q => if pos q.1 then some (r, (q.2 : Int)) else none).map v) = xs.filter pos
 | _, [], _, _ => by simp
 | pre, x :: xs, v, h => by
  have ih := row_vals (r := r) (pre ++ [x]) xs v fun j y hy => by
   have := h (j + 1) y (by simpa using hy)
   rw [List.length_append]
   have e : pre.length + [x].length + j = pre.length + (j + 1) := by simp; omega
   rw [e]; exact this
  have h0 := h 0 x rfl
  rw [List.length_append] at ih
  rw [List.zipIdx_cons]
  have ih' : (((xs.zipIdx (pre.length + 1)).filterMap fun q => if pos q.1 then some (r, (q.2 : Int)) else none).map v) = xs.filter pos := ih
  cases hp : pos x with
  | true =>
   rw [List.filterMap_cons_some (b := (r, (pre.length : Int))) (by simp [hp]), List.map_cons, ih', List.filter_cons_of_pos hp]
   congr 1
  | false =>
   rw [List.filterMap_cons_none (by simp [hp]), ih', List.filter_cons_of_neg (by simp [hp])]
theorem vals_cells (g : Grid) : (gridF pos g).map (atG g) = (g.map fun xs => xs.filter pos).flatten := by
 unfold gridF
 rw [List.map_flatten, List.map_map]
 have e : g.zipIdx.map (List.map (atG g) ∘ fun p => rowF pos p.2 p.1) = g.zipIdx.map fun p => p.1.filter pos := by
  refine List.map_congr_left fun p hp => ?_
  obtain ⟨xs, i⟩ := p
  have hx := List.mem_zipIdx_iff_getElem?.mp hp
  show (rowF pos i xs).map (atG g) = xs.filter pos
  exact row_vals (r := (i : Int)) [] xs (atG g) fun j x hj => by
   simp only [List.length_nil, Nat.zero_add]
   exact atG_of hx hj
 rw [e]
 congr 1
 have : (fun p : List Int × Nat => p.1.filter pos) = (fun xs => xs.filter pos) ∘ Prod.fst := rfl
 rw [this, ← List.map_map, List.zipIdx_map_fst]
theorem len_cells (g : Grid) : (gridF pos g).length = cntG g := by
 have := congrArg List.length (vals_cells g)
 rw [List.length_map] at this
 rw [this, List.length_flatten, List.map_map]
 rfl
end Grd
namespace L2
open PySem Grd
noncomputable def forBody (s : Stmt) : List Stmt := match s with | .For _ _ b _ _ => b | _ => []
noncomputable def RowsG (H : Hp) (bs : List Addr) (g : Grid) : Prop := Paired (fun b xs => H b = some (.tup ((xs : List Int).map V.int))) bs g
noncomputable def GridAt (H : Hp) (a : Addr) (g : Grid) : Prop := ∃ bs : List Addr, H a = some (.tup (bs.map V.ref)) ∧ RowsG H bs g
theorem RowsG.ext {H H' : Hp} {bs : List Addr} {g : Grid} (h : RowsG H bs g) (e : Ext H H') : RowsG H' bs g := Paired.mapP h fun _ _ z => e.tup _ _ z
theorem GridAt.ext {H H' : Hp} {a : Addr} {g : Grid} (h : GridAt H a g) (e : Ext H H') : GridAt H' a g := let ⟨bs, h1, h2⟩ := h; ⟨bs, e.tup _ _ h1, h2.ext e⟩
theorem RowsG.row {H : Hp} : ∀ {bs : List Addr} {g : Grid} {i : Nat} {b : Addr}, RowsG H bs g → bs[i]? = some b → ∃ xs, g[i]? = some xs ∧ H b = some (.tup (xs.map V.int))
 | _, _, 0, _, .cons r _, h => by cases h; exact ⟨_, rfl, r⟩
 | _, _, i + 1, _, .cons _ t, h => RowsG.row (i := i) t (by simpa using h)
end L2
namespace M50
open PySem L2 PyProof.Rows Grd
noncomputable abbrev sMeadL : Stmt := top 57
structure Txt2 (mg : Str → Option Value) : Prop where
 range : mg "range" = none
 list : mg "list" = none
 zip : mg "zip" = none
 sum : mg "sum" = none
 sorted : mg "sorted" = none
 min : mg "min" = none
 abs : mg "abs" = none
 any : mg "any" = none
 holders : ∃ t, mg "MOST_HOLDERS" = some (.int 4 t)
noncomputable def spMeadL : Sp := fun vs H Q _ => ∃ p, vs = [.ref p, .int 10] ∧ PenAt H p ∧ ∀ a g w H', Stp p H H' → GridAt H' a g → Good g w → Q (.ref a) H'
section
variable {P : Program} {w : World} {K : PySem.W.Frag} {mg : Str → Option Value} {base : Heap}
noncomputable abbrev nMeadL : List Str := ["_law_pen_here", "_law_most", "_law_high", "_law_wide", "_law_odds", "_law_rows", "_law_left", "_law_line", "_law_row", "_law_place", "_law_number"]
theorem scMeadL : FnScope nMeadL ["_law_pen_here", "_law_most"] (defScope sMeadL) := ⟨rfl, rfl, rfl, by decide +kernel, rfl, by decide +kernel, by decide +kernel⟩
noncomputable abbrev σM (p lr : Addr) (m hi wi od lf : Int) (o7 o8 o9 o10 : Option V) : L2.St := [some (.ref p), some (.int m), some (.int hi), some (.int wi), some (.int od), some (.ref lr), some (.int lf), o7, o8, o9, o10]
noncomputable def dec (n : Int) : Int := if decide (0 ≤ n) = true then 1 else 0
theorem dec_cnt (n : Int) : ((if pos n then 1 else 0 : Nat) : Int) = dec n := by
 unfold dec pos
 by_cases h : 0 ≤ n <;> simp [h]
theorem cut1 (xs : List Int) (h : 1 ≤ xs.length) : cutV (xs.map V.int) (some 1) none = (xs.drop 1).map V.int := by
 have e1 : HT.sIx (xs.map V.int).length 0 (some 1) = min 1 (xs.map V.int).length := HT.sIx_nat _ _ 1
 have e2 : HT.sIx (xs.map V.int).length (xs.map V.int).length none = (xs.map V.int).length := rfl
 unfold cutV
 rw [e1, e2, List.length_map]
 have e3 : min 1 xs.length = 1 := by omega
 rw [e3, ← List.map_drop, List.take_of_length_le (by rw [List.length_map, List.length_drop]; omega)]
theorem ok_meadL {f g : Addr} {fd gd : FuncData} (F : Fun K "_law_mead" "_law_mead" sMeadL f fd) (T : Txt mg) (T2 : Txt2 mg) (b1 : Binds K gd ["_law_pen_here", "_law_many"] []) (m1 : mg "_law_draw" = some (.ref g)) (p1 : PySem.W.keepIn K (.ref g) = true)
    (D : FnOk P w K mg base CX0 1 g gd ["_law_pen_here", "_law_many"] spDraw) : FnOk P w K mg base CX0 2 f fd ["_law_pen_here", "_law_most"] spMeadL := by
  refine F.ok scMeadL (fun vs H Q E h => ?_) (fun cdv A outer s H vs Q E hr h => ?_)
  · obtain ⟨p, rfl, _⟩ := h; rfl
  · obtain ⟨p, rfl, hp, q⟩ := h
    have nd := scMeadL.nd
    -- left = left - int(number >= 0); row.append(number)
    have t45 : ∃ tt, PSs (cxOf CX0 P w K mg base nMeadL "_law_mead" (defScope sMeadL) f cdv A outer s H E).nox ((forBody ((forBody ((defBody sMeadL).getD 2 (.Pass ⟨0, 0, 0, 0⟩))).getD 1 (.Pass ⟨0, 0, 0, 0⟩))).drop 3) tt ∧
        ∀ (lr rw' : Addr) (hi wi od lf n : Int) (o7 o9 : Option V) (H1 : Hp) (xs : List V) (De : Ends), H1 rw' = some (.lst xs) → xs.length ≤ 10 → De.nx (σM p lr 10 hi wi od (lf - dec n) o7 (some (.ref rw')) o9 (some (.int n))) (upd H1 rw' (.lst (xs ++ [.int n]))) →
          tt De (σM p lr 10 hi wi od lf o7 (some (.ref rw')) o9 (some (.int n))) H1 := by
      refine ⟨_, pss_cons (ps_set (i := 6) nd rfl (Or.inl rfl) (pe_op op_sub (pv 6) (pe_callTy call_int1 rfl T.int boot_int (pa_m (pe_cmpR op_ge (pv 10) pe_int (nomark _)) pa_nil)))) <|
        pss_one (ps_expr (pe_bm PySem.F.plainAttrs_list PySem.F.slot_list_append PySem.F.type_list_append mt_append (pv 8) (pa_v (pv 10) pa_nil))), ?_⟩
      intro lr rw' hi wi od lf n o7 o9 H1 xs De hrw hz k
      refine ⟨_, rfl, _, rfl, _, _, rfl, rfl, .inr ⟨_, rfl, _, _, rfl, rfl, ?_⟩⟩
      exact ⟨_, rfl, .inl ⟨rfl, _, SqL.of hrw⟩, _, rfl, rw', xs, _, rfl, rfl, hrw, small1000 (by omega), k⟩
    obtain ⟨tt45, h45, r45⟩ := t45
    have t345 : ∃ tt, PSs (cxOf CX0 P w K mg base nMeadL "_law_mead" (defScope sMeadL) f cdv A outer s H E).nox ((forBody ((forBody ((defBody sMeadL).getD 2 (.Pass ⟨0, 0, 0, 0⟩))).getD 1 (.Pass ⟨0, 0, 0, 0⟩))).drop 2) tt ∧
        ∀ (lr rw' : Addr) (hi wi od lf n : Int) (o7 o9 : Option V) (H1 : Hp) (xs : List V) (De : Ends), H1 rw' = some (.lst xs) → xs.length ≤ 10 → (∀ n', (n' = n ∨ n' = -1) → (0 ≤ n' → lf ≠ 0) → De.nx (σM p lr 10 hi wi od (lf - dec n') o7 (some (.ref rw')) o9 (some (.int n'))) (upd H1 rw' (.lst (xs ++ [.int n'])))) →
          tt De (σM p lr 10 hi wi od lf o7 (some (.ref rw')) o9 (some (.int n))) H1 := by
      refine ⟨_, pss_cons (ps_if (PW.pt (pw_and (pt_cmpR op_ge (pv 10) pe_int (nomark _)) (pw_and1 (pt_cmpR op_eq (pv 6) pe_int (nomark _))))) (pss_one (ps_set (i := 10) nd rfl (Or.inl rfl) (pe_un un_neg pe_int))) pss_nil) h45, ?_⟩
      intro lr rw' hi wi od lf n o7 o9 H1 xs De hrw hz k
      refine ⟨_, rfl, _, _, rfl, rfl, _, rfl, ite2d (fun n0 => ?_) fun n0 => ?_⟩
      · refine ⟨_, rfl, rfl, _, rfl, ite2d (fun l0 => ?_) fun l0 => ?_⟩
        · exact ⟨_, rfl, r45 lr rw' hi wi od lf _ o7 o9 H1 xs De hrw hz (k (-1) (.inr rfl) fun z => absurd z (by decide))⟩
        · exact r45 lr rw' hi wi od lf n o7 o9 H1 xs De hrw hz (k n (.inl rfl) fun _ z => l0 (by rw [z]))
      · refine iteF ?_
        exact r45 lr rw' hi wi od lf n o7 o9 H1 xs De hrw hz (k n (.inl rfl) fun z => absurd z n0)
    obtain ⟨tt3, h3, r3⟩ := t345
    have tin : ∃ tt, PSs (cxOf CX0 P w K mg base nMeadL "_law_mead" (defScope sMeadL) f cdv A outer s H E).nox (forBody ((forBody ((defBody sMeadL).getD 2 (.Pass ⟨0, 0, 0, 0⟩))).getD 1 (.Pass ⟨0, 0, 0, 0⟩))) tt ∧
        ∀ (lr rw' : Addr) (hi wi od lf : Int) (o7 o9 o10 : Option V) (H1 : Hp) (xs : List V) (De : Ends), PenAt H1 p → H1 rw' = some (.lst xs) → rw' ≠ p → xs.length ≤ 10 →
          (∀ n' H2, Stp p H1 H2 → -2 ≤ n' → n' ≤ 99 → (0 ≤ n' → lf ≠ 0) → De.nx (σM p lr 10 hi wi od (lf - dec n') o7 (some (.ref rw')) o9 (some (.int n'))) (upd H2 rw' (.lst (xs ++ [.int n'])))) →
          tt De (σM p lr 10 hi wi od lf o7 (some (.ref rw')) o9 o10) H1 := by
      refine ⟨_, pss_cons (ps_set (i := 10) nd rfl (Or.inl rfl) (pe_ix ix_list (pe_lst (pa_k (pe_call D hr rfl m1 p1 b1 .nil pass0 (pa_v (pv 0) (pa_c pe_int pa_nil))) (pa_k (pe_call D hr rfl m1 p1 b1 .nil pass0 (pa_v (pv 0) (pa_c pe_int pa_nil))) (pa_u (pe_un un_neg pe_int) (pa_u (pe_un un_neg pe_int) (pa_c pe_int pa_nil))))))
          (pe_call D hr rfl m1 p1 b1 .nil pass0 (pa_v (pv 0) (pa_c pe_int pa_nil))) (fun _ _ => rfl))) <|
        pss_cons (ps_if (PW.pt (pw_and (pt_cmpR op_gt (pv 4) pe_int (nomark _)) (pw_and1 (pt_cmpR op_eq (pe_call D hr rfl m1 p1 b1 .nil pass0 (pa_v (pv 0) (pa_c pe_int pa_nil))) pe_int (nomark _))))) (pss_one (ps_set (i := 10) nd rfl (Or.inl rfl) (pe_call D hr rfl m1 p1 b1 .nil pass0 (pa_v (pv 0) (pa_c pe_int pa_nil))))) pss_nil) h3, ?_⟩
      intro lr rw' hi wi od lf o7 o9 o10 H1 xs De hp1 hrw hrp hz k
      refine ⟨_, rfl, p, 4, rfl, hp1, by decide, by decide, fun d1 H2 a1 a2 st2 => ?_⟩
      refine ⟨_, rfl, p, 100, rfl, st2.pen, by decide, by decide, fun d2 H3 c1 c2 st3 => ?_⟩
      refine ⟨_, rfl, _, rfl, ?_⟩
      refine ⟨by show 5 ≤ sizeLine; decide, fun l hl => ?_⟩
      have stl : Stp p H1 (upd H3 l (.lst [.int d1, .int d2, .int (-1), .int (-2), .int 1])) := (st2.trans st3).same (same_upd hl)
      refine ⟨_, rfl, p, 5, rfl, stl.pen, by decide, by decide, fun i H4 i0 i1 st4 => ?_⟩
      have hlp : l ≠ p := fun z => by
        obtain ⟨x, f', e⟩ := st3.pen
        rw [z, e] at hl; cases hl
      obtain ⟨n, hn, nlo, nhi⟩ : ∃ n, atI [V.int d1, .int d2, .int (-1), .int (-2), .int 1] i = some (.int n) ∧ -2 ≤ n ∧ n ≤ 99 := by
        obtain ⟨j, rfl⟩ := Int.eq_ofNat_of_zero_le i0
        have hj : j < 5 := by omega
        match j, hj with
        | 0, _ => exact ⟨_, atI_nat rfl, by omega, by omega⟩
        | 1, _ => exact ⟨_, atI_nat rfl, by omega, by omega⟩
        | 2, _ => exact ⟨_, atI_nat rfl, by omega, by omega⟩
        | 3, _ => exact ⟨_, atI_nat rfl, by omega, by omega⟩
        | 4, _ => exact ⟨_, atI_nat rfl, by omega, by omega⟩
      have st5 := stl.trans st4
      refine ⟨l, _, i, _, rfl, rfl, SqL.of (st4.keep l _ hlp upd_same), hn, ?_⟩
      refine ⟨_, rfl, _, _, rfl, rfl, _, rfl, ite2d (fun _ => ?_) fun _ => ?_⟩
      · refine ⟨_, rfl, p, 2, rfl, st5.pen, by decide, by decide, fun z H5 z0 z1 st6 => ?_⟩
        refine ⟨rfl, _, rfl, ite2d (fun _ => ?_) fun _ => ?_⟩
        · refine ⟨_, rfl, p, 9, rfl, st6.pen, by decide, by decide, fun n2 H6 y0 y1 st7 => ?_⟩
          have st8 := (st5.trans st6).trans st7
          exact r3 lr rw' hi wi od lf n2 o7 o9 H6 xs De (st8.keep _ _ hrp hrw) hz fun n' e hl => k n' H6 st8 (by omega) (by omega) hl
        · have st8 := st5.trans st6
          exact r3 lr rw' hi wi od lf n o7 o9 H5 xs De (st8.keep _ _ hrp hrw) hz fun n' e hl => k n' H5 st8 (by omega) (by omega) hl
      · refine iteF ?_
        exact r3 lr rw' hi wi od lf n o7 o9 H4 xs De (st5.keep _ _ hrp hrw) hz fun n' e hl => k n' H4 st5 (by omega) (by omega) hl
    obtain ⟨tti, hin, rin⟩ := tin
    refine ⟨_, pss_cons (ps_par3 (i := 2) (j := 3) (k := 4) rfl nd rfl rfl rfl (by decide) (by decide) (by decide) rfl rfl rfl (pa_b (pe_op op_add pe_int (pe_call D hr rfl m1 p1 b1 .nil pass0 (pa_v (pv 0) (pa_c pe_int pa_nil)))) (pa_b (pe_op op_add pe_int (pe_call D hr rfl m1 p1 b1 .nil pass0 (pa_v (pv 0) (pa_c pe_int pa_nil)))) (pa_k (pe_call D hr rfl m1 p1 b1 .nil pass0 (pa_v (pv 0) (pa_c pe_int pa_nil))) pa_nil))) rfl) <|
      pss_cons (ps_par (i := 5) (j := 6) rfl nd rfl rfl (by decide) rfl rfl (pa_l (pe_lst pa_nil) (pa_v (pv 1) pa_nil)) rfl) <|
      pss_cons (ps_for PassesOwn.never rfl (pi_range1 rfl T2.range (pa_v (pv 2) pa_nil)) (pg_name (i := 7) nd rfl (Or.inl rfl))
        (pss_cons (ps_set (i := 8) nd rfl (Or.inl rfl) (pe_lst pa_nil)) <|
         pss_cons (ps_for PassesOwn.never rfl (pi_range1 rfl T2.range (pa_v (pv 3) pa_nil)) (pg_name (i := 9) nd rfl (Or.inl rfl)) hin) <|
         pss_one (ps_expr (pe_bm PySem.F.plainAttrs_list PySem.F.slot_list_append PySem.F.type_list_append mt_append (pv 5) (pa_k (pe_callTy call_tuple_of rfl T.tuple boot_tuple (pa_v (pv 8) pa_nil)) pa_nil))))) <|
      pss_cons (ps_if (pt_cmpR op_eq (pv 6) (pv 1) (nomark _)) (pss_one (ps_asg (pe_op op_catU (pe_tup (pa_c pe_int pa_nil)) (pe_slice sl_tupU (pe_ix ix_list (pv 5) pe_int (fun _ _ => rfl)) (po_some pe_int) po_none)) (pg_sub (pv 5) pe_int set_list))) pss_nil) <|
      pss_one (ps_ret (pe_callTy call_tuple_of rfl T.tuple boot_tuple (pa_v (pv 5) pa_nil))), ?_⟩
    refine ⟨_, rfl, p, 4, rfl, hp, by decide, by decide, fun d1 H1 a1 a2 st1 => ?_⟩
    refine ⟨_, _, rfl, rfl, _, rfl, p, 5, rfl, st1.pen, by decide, by decide, fun d2 H2 c1 c2 st2 => ?_⟩
    refine ⟨_, _, rfl, rfl, _, rfl, p, 3, rfl, st2.pen, by decide, by decide, fun od H3 e1 e2 st3 => ?_⟩
    refine ⟨_, _, _, rfl, ?_⟩
    refine ⟨by show 0 ≤ sizeLine; decide, fun lr hlr => ?_⟩
    refine ⟨_, rfl, _, _, rfl, ?_⟩
    have st4 : Stp p H (upd H3 lr (.lst [])) := ((st1.trans st2).trans st3).same (same_upd hlr)
    have hHlr : H lr = none := by
      cases e : H lr with
      | none => rfl
      | some o =>
        by_cases z : lr = p
        · obtain ⟨x, f', e'⟩ := st3.pen
          rw [z, e'] at hlr; cases hlr
        · rw [((st1.trans st2).trans st3).keep lr o z e] at hlr; cases hlr
    have hlrp : lr ≠ p := fun z => by
      obtain ⟨x, f', e'⟩ := hp
      rw [z, e'] at hHlr; cases hHlr
    refine ⟨_, rfl, 1 + d1, rfl, by omega, by omega, ?_⟩
    refine for_range (lo := 0) (n := (1 + d1).toNat) (fun i σ H' => ∃ (lf : Int) (bs : List Addr) (g : Grid), (∃ o7 o8 o9 o10, σ = σM p lr 10 (1 + d1) (1 + d2) od lf o7 o8 o9 o10) ∧ Stp p H H' ∧ H' lr = some (.lst (bs.map V.ref)) ∧ RowsG H' bs g ∧ g.length = i ∧ 0 ≤ lf ∧ lf + cntG g = 10 ∧ (∀ xs ∈ g, xs.length = (1 + d2).toNat) ∧ ∀ xs ∈ g, ∀ n ∈ xs, -2 ≤ n ∧ n ≤ 99)
      ⟨10, [], [], ⟨_, _, _, _, rfl⟩, st4, upd_same, .nil, rfl, by decide, rfl, (fun r hr' => by cases hr'), (fun r hr' => by cases hr')⟩ ?_ ?_
    · rintro i σ H' hi ⟨lf, bs, g, ⟨o7, o8, o9, o10, rfl⟩, st', hlr', hG, hn, lf0, lfc, hlen, hnum⟩
      have hbs : bs.length = g.length := Paired.length hG
      refine ⟨by show 0 ≤ sizeLine; decide, fun rw' hrw => ?_⟩
      have hrp : rw' ≠ p := fun z => by
        obtain ⟨x, f', e'⟩ := st'.pen
        rw [z, e'] at hrw; cases hrw
      have hrl : rw' ≠ lr := fun z => by rw [z, hlr'] at hrw; cases hrw
      refine ⟨_, rfl, 1 + d2, rfl, by omega, by omega, ?_⟩
      refine for_range (lo := 0) (n := (1 + d2).toNat) (fun j σ H2 => ∃ (lf2 : Int) (xs : List Int), (∃ o9 o10, σ = σM p lr 10 (1 + d1) (1 + d2) od lf2 (some (.int (0 + i))) (some (.ref rw')) o9 o10) ∧ Stp p H' H2 ∧ H2 rw' = some (.lst (xs.map V.int)) ∧ xs.length = j ∧ 0 ≤ lf2 ∧ lf2 + cntR xs = lf ∧ ∀ n ∈ xs, -2 ≤ n ∧ n ≤ 99)
        ⟨lf, [], ⟨_, _, rfl⟩, (Stp.refl st'.pen).updL hrw st'.pen, upd_same, rfl, lf0, by simp [cntR], fun x hx => by cases hx⟩ ?_ ?_
      · rintro j σ H2 hj ⟨lf2, xs, ⟨o92, o102, rfl⟩, stj, hxs, hnj, l0, lc, hxi⟩
        refine rin lr rw' _ _ _ lf2 _ _ _ H2 (xs.map V.int) _ stj.pen hxs hrp (by rw [List.length_map]; omega) fun n' H3 st3' n1 n2 nl => ?_
        refine ⟨lf2 - dec n', xs ++ [n'], ⟨_, _, rfl⟩, (stj.trans st3').updL hrw st'.pen, by rw [upd_same, List.map_append]; rfl, by rw [List.length_append, hnj]; rfl, ?_, ?_, fun x hx => ?_⟩
        · unfold dec
          by_cases h0 : 0 ≤ n'
          · have := nl h0
            rw [decide_eq_true h0, if_pos rfl]; omega
          · rw [decide_eq_false h0, if_neg (by decide)]; omega
        · rw [cntR_succ, Int.natCast_add, dec_cnt]; omega
        · rcases List.mem_append.mp hx with z | z
          · exact hxi x z
          · rw [List.mem_singleton.mp z]; exact ⟨n1, n2⟩
      · rintro σ H2 ⟨lf2, xs, ⟨o92, o102, rfl⟩, stj, hxs, hnj, l0, lc, hxi⟩
        have hlr2 := stj.keep lr _ hlrp hlr'
        refine ⟨_, rfl, .inl ⟨rfl, _, SqL.of hlr2⟩, _, rfl, rw', xs.map V.int, rfl, .inl ⟨SqL.of hxs, fun t ht => ?_⟩⟩
        have s3 := same_upd (o := .tup (xs.map V.int)) ht
        have hlr3 := s3 _ _ hlr2
        refine ⟨lr, bs.map V.ref, _, rfl, rfl, hlr3, small1000 (by rw [List.length_map]; omega), ?_⟩
        have exA : Ext H' (upd (upd H2 t (.tup (xs.map V.int))) lr (.lst (bs.map V.ref ++ [.ref t]))) := ((stj.ext st'.pen).trans s3.ext).trans (Ext.updL hlr3)
        have htl : t ≠ lr := fun z => by rw [z, hlr2] at ht; cases ht
        refine ⟨lf2, bs ++ [t], g ++ [xs], ⟨_, _, _, _, rfl⟩, ((st'.trans stj).same s3).updL hHlr hp, by rw [upd_same, List.map_append]; rfl, Paired.snoc (hG.ext exA) (by rw [upd_ne htl, upd_same]), by rw [List.length_append, hn]; rfl, l0, ?_, fun ys hy => ?_, fun ys hy => ?_⟩
        · rw [cntG_succ]; omega
        · rcases List.mem_append.mp hy with z | z
          · exact hlen ys z
          · rw [List.mem_singleton.mp z]; exact hnj
        · rcases List.mem_append.mp hy with z | z
          · exact hnum ys z
          · rw [List.mem_singleton.mp z]; exact hxi
    · rintro σ H' ⟨lf, bs, g, ⟨o7, o8, o9, o10, rfl⟩, st', hlr', hG, hn, lf0, lfc, hlen, hnum⟩
      have hbs : bs.length = g.length := Paired.length hG
      have h1 : 1 ≤ g.length := by omega
      have h4 : g.length ≤ 4 := by omega
      refine ⟨_, rfl, _, rfl, rfl, _, rfl, ite2d (fun e10 => ?_) fun e10 => ?_⟩
      · have e10' : lf = 10 := V.int.inj e10
        obtain ⟨b0, bs', rfl⟩ : ∃ b0 bs', bs = b0 :: bs' := List.exists_cons_of_ne_nil (fun z => by rw [z] at hbs; simp at hbs; omega)
        obtain ⟨xs0, g', rfl⟩ : ∃ xs0 g', g = xs0 :: g' := List.exists_cons_of_ne_nil (fun z => by rw [z] at h1; simp at h1)
        have hb0 : H' b0 = some (.tup (xs0.map V.int)) := by cases hG with | cons a b => exact a
        have hG' : RowsG H' bs' g' := by cases hG with | cons a b => exact b
        have hw0 := hlen xs0 List.mem_cons_self
        refine ⟨by show 1 ≤ sizeLine; decide, fun t3 ht3 => ?_⟩
        have s3 := same_upd (o := .tup [.int 3]) ht3
        refine ⟨_, rfl, lr, _, 0, .ref b0, rfl, rfl, SqL.of (s3 _ _ hlr'), atI_nat (j := 0) rfl, _, rfl, b0, xs0.map V.int, rfl, s3 _ _ hb0, fun c H4 s4 hc => ?_⟩
        rw [cut1 xs0 (by omega)] at hc
        refine ⟨t3, c, [.int 3], _, rfl, rfl, s4 _ _ upd_same, hc, ?_, fun c2 H5 s5 hc2 => ?_⟩
        · rw [List.length_map, List.length_drop, sizeLine_eq]; show 1 + _ ≤ _; omega
        have hlr5 := s5 _ _ (s4 _ _ (s3 _ _ hlr'))
        refine ⟨_, rfl, lr, _, 0, 0, rfl, rfl, hlr5, (by unfold ixN; rw [if_pos (by decide), if_pos (by simp)]; rfl), ?_⟩
        have exA : Ext H' (upd H5 lr (.lst (((b0 :: bs').map V.ref).set 0 (.ref c2)))) := ((s3.ext.trans s4.ext).trans s5.ext).trans (Ext.updL hlr5)
        refine ⟨_, rfl, lr, _, rfl, .inl ⟨SqL.of upd_same, fun tt htt => ?_⟩⟩
        have s6 := same_upd (o := .tup (((b0 :: bs').map V.ref).set 0 (.ref c2))) htt
        have hc2l : c2 ≠ lr := fun z => by rw [z, hlr5] at hc2; cases hc2
        have z0 : cntG (xs0 :: g') = 0 := by omega
        have z1 : cntR xs0 = 0 ∧ cntG g' = 0 := by
          unfold cntG at z0 ⊢
          rw [List.map_cons, List.sum_cons] at z0
          omega
        have zd : cntR (xs0.drop 1) = 0 := by
          have : (xs0.filter pos) = [] := List.length_eq_zero_iff.mp z1.1
          unfold cntR
          rw [List.length_eq_zero_iff, List.filter_eq_nil_iff]
          intro a ha
          exact List.filter_eq_nil_iff.mp this a (List.mem_of_mem_drop ha)
        have zc : cntG ((3 :: xs0.drop 1) :: g') = 1 := by
          have e1 : cntR (3 :: xs0.drop 1) = cntR (xs0.drop 1) + 1 := by unfold cntR; rw [List.filter_cons_of_pos (by decide), List.length_cons]
          unfold cntG
          rw [List.map_cons, List.sum_cons, e1, zd]
          have := z1.2
          unfold cntG at this
          omega
        refine q tt ((3 :: xs0.drop 1) :: g') (1 + d2).toNat _ ((((st'.same s3).same s4).same s5).updL hHlr hp |>.same s6) ⟨c2 :: bs', upd_same, .cons ?_ (hG'.ext (exA.trans s6.ext))⟩ ⟨by simp, by simpa using h4, by omega, by omega, fun ys hy => ?_, fun ys hy => ?_, by omega, by omega⟩
        · exact s6 _ _ (by rw [upd_ne hc2l]; exact hc2)
        · rcases List.mem_cons.mp hy with z | z
          · rw [z, List.length_cons, List.length_drop]; omega
          · exact hlen ys (List.mem_cons_of_mem _ z)
        · rcases List.mem_cons.mp hy with z | z
          · rw [z]
            intro n hn'
            rcases List.mem_cons.mp hn' with z' | z'
            · omega
            · exact hnum xs0 List.mem_cons_self n (List.mem_of_mem_drop z')
          · exact hnum ys (List.mem_cons_of_mem _ z)
      · refine ⟨_, rfl, lr, _, rfl, .inl ⟨SqL.of hlr', fun tt htt => ?_⟩⟩
        have s6 := same_upd (o := .tup (bs.map V.ref)) htt
        have e10' : lf ≠ 10 := fun z => e10 (by rw [z])
        exact q tt g (1 + d2).toNat _ (st'.same s6) ⟨bs, upd_same, hG.ext s6.ext⟩ ⟨h1, h4, by omega, by omega, hlen, hnum, by omega, by omega⟩
end
end M50
namespace PySem
open Sem (wp)
section
variable {prog : Program} {w : World} {A : Around} {E : Value → Shared → Prop} {s : Shared}
structure ZipFar (z TI TO i1 i2 : Addr) (f1 f2 : List Addr) : Prop where
 z1 : z ∉ f1
 z2 : z ∉ f2
 o1 : TO ∉ f1
 o2 : TO ∉ f2
 c1 : i1 ∉ f2
 c2 : i2 ∉ f1
 Iz : TI ≠ z
 Oz : TO ≠ z
 iz : i1 ≠ z
 jz : i2 ≠ z
 IO : TI ≠ TO
 I1 : TI ≠ i1
 I2 : TI ≠ i2
 O1 : TO ≠ i1
 O2 : TO ≠ i2
 ij : i1 ≠ i2
theorem zipFar_new (n a b : Nat) (h1 : a < n) (h2 : b < n) : ZipFar (n + 4) (n + 2) (n + 3) n (n + 1) [n, a] [n + 1, b] := by
  constructor <;> intro h <;> first
    | (have h' : @Eq Nat _ _ := h; omega)
    | (rcases List.mem_cons.mp h with y | y
       · have y' : @Eq Nat _ _ := y; omega
       · have y' : @Eq Nat _ _ := List.mem_singleton.mp y; omega)
theorem zipD_item {z TI TO i1 i2 : Addr} {f1 f2 : List Addr} {n1 n2 k : Nat} {P1 P2 : Nat → Value → Prop} {S1 S2 : Nat → Heap → Prop} {a b : Value} {Q : Value → Shared → Prop} (D1 : Draws prog w A i1 f1 n1 P1 S1) (D2 : Draws prog w A i2 f2 n2 P2 S2) (D : ZipFar z TI TO i1 i2 f1 f2)
  (hz : IsZip s.heap z TI TO .none) (hTI : IsPair s.heap TI (.ref i1) (.ref i2)) (hTO : IsPair s.heap TO a b) (t1 : S1 k s.heap) (t2 : S2 k s.heap) (hk1 : k < n1) (hk2 : k < n2)
  (hQ : ∀ x y h' tk, P1 k x → P2 k y → IsZip h' z TI TO (rawInt s.heap.objs.size) → IsPair h' TO x y → S1 (k + 1) h' → S2 (k + 1) h' → IsPair h' s.heap.objs.size x y →
   (∀ c o, c ≠ z → c ≠ TO → c ≠ i1 → c ≠ i2 → s.heap.get? c = some o → h'.get? c = some o) → Q (.ref s.heap.objs.size) { s with heap := h', toks := tk }) :
  wpAny (model prog w) A (Builtin.«zip.__next__» ⟨[.ref z], []⟩) (fun fin s' => ∃ v, fin = .done (.ret v) ∧ Q v s') E s := by
 show wpAny _ _ (field (.ref z) 2 >>= _) _ _ _; refine wpAny_bind (wpAny_field hz rfl (x := .bool false) rfl ?_); show wpAny _ _ (field (.ref z) 3 >>= _) _ _ _
 refine wpAny_bind (wpAny_field hz rfl (x := .ref TI) rfl (wpAny_bind (wpAny_seqItems hTI rfl ?_)))
 show wpAny _ _ (Builtin.SmallTypes.ownedTupleIsFree (.ref z) >>= _) _ _ _; refine wpAny_bind ?_; unfold Builtin.SmallTypes.ownedTupleIsFree
 refine wpAny_bind (wpAny_field hz rfl (x := .none) rfl (wpAny_pure ?_)); simp only [if_true]
 refine wpAny_bind (wpAny_rule (wpAny_bind (wpAny_field hz rfl (x := .ref TO) rfl (wpAny_bind (wpAny_setField_rec hz (by simp) fun h₁ hz₁ hs₁ => ?_)))))
 replace hz₁ : IsZip h₁ z TI TO .ellipsis := hz₁
 refine wpAny_bind ?_; simp only [List.zipIdx_cons, List.zipIdx_nil, List.forIn_cons, List.forIn_nil]
 refine wpAny_bind (wpAny_bind (wpAny_onRaise ?_)); show wpAny _ _ (Builtin.SmallTypes.nextOf (.ref i1) >>= _) _ _ _
 have u1 : S1 k h₁ := D1.frame k _ _ t1 fun c hc o e => hs₁.extBut _ _ (fun q => D.z1 (q ▸ hc)) e
 refine wpAny_bind (D1.item k _ _ _ hk1 u1 fun x h₂ tk₂ hx v1 hs₂ => wpAny_pure ?_)
 have hTO₂ : IsPair h₂ TO a b := hs₂.extBut _ _ D.O1 (hs₁.extBut _ _ D.Oz hTO)
 refine wpAny_bind (wpAny_seqItems hTO₂ rfl (wpAny_bind (wpAny_updateSeq_pair hTO₂ fun h₃ hTO₃ hs₃ => ?_)))
 replace hTO₃ : IsPair h₃ TO x b := hTO₃
 refine wpAny_bind (wpAny_letGo (wpAny_pure ?_)); refine wpAny_bind (wpAny_bind (wpAny_onRaise ?_)); show wpAny _ _ (Builtin.SmallTypes.nextOf (.ref i2) >>= _) _ _ _
 have u2 : S2 k h₃ := D2.frame k _ _ t2 fun c hc o e => hs₃.extBut _ _ (fun q => D.o2 (q ▸ hc)) (hs₂.extBut _ _ (fun q => D.c1 (q ▸ hc)) (hs₁.extBut _ _ (fun q => D.z2 (q ▸ hc)) e))
 refine wpAny_bind (D2.item k _ _ _ hk2 u2 fun y h₄ tk₄ hy v2 hs₄ => wpAny_pure ?_)
 have hTO₄ : IsPair h₄ TO x b := hs₄.extBut _ _ D.O2 hTO₃
 refine wpAny_bind (wpAny_seqItems hTO₄ rfl (wpAny_bind (wpAny_updateSeq_pair hTO₄ fun h₅ hTO₅ hs₅ => ?_)))
 replace hTO₅ : IsPair h₅ TO x y := hTO₅
 refine wpAny_bind (wpAny_letGo (wpAny_pure (wpAny_pure ?_))); refine wpAny_bind (wpAny_seqItems hTO₅ rfl (wpAny_bind (wpAny_newTuple ?_)))
 have hsz : h₅.objs.size = s.heap.objs.size := by rw [hs₅.1, hs₄.1, hs₃.1, hs₂.1, hs₁.1]
 have hz₅ : IsZip h₅ z TI TO .ellipsis := hs₅.extBut _ _ D.Oz.symm (hs₄.extBut _ _ D.jz.symm (hs₃.extBut _ _ D.Oz.symm (hs₂.extBut _ _ D.iz.symm hz₁)))
 have hk₅ : ∀ c o, c ≠ z → c ≠ TO → c ≠ i1 → c ≠ i2 → s.heap.get? c = some o → h₅.get? c = some o := fun c o e1 e2 e3 e4 e => hs₅.extBut _ _ e2 (hs₄.extBut _ _ e4 (hs₃.extBut _ _ e2 (hs₂.extBut _ _ e3 (hs₁.extBut _ _ e1 e))))
 have w1 : S1 (k + 1) h₅ := D1.frame _ _ _ v1 fun c hc o e => hs₅.extBut _ _ (fun q => D.o1 (q ▸ hc)) (hs₄.extBut _ _ (fun q => D.c2 (q ▸ hc)) (hs₃.extBut _ _ (fun q => D.o1 (q ▸ hc)) e))
 have w2 : S2 (k + 1) h₅ := D2.frame _ _ _ v2 fun c hc o e => hs₅.extBut _ _ (fun q => D.o2 (q ▸ hc)) e
 have hzlt : z < h₅.objs.size := Heap.lt_size hz₅
 show wpAny _ _ (Builtin.SmallTypes.ownedTupleHandOut (.ref z) (.ref h₅.objs.size) >>= _) _ _ _; refine wpAny_bind ?_; unfold Builtin.SmallTypes.ownedTupleHandOut
 have hz₆ : IsZip (h₅.push { cls := .type "tuple", data := .seq #[x, y] }) z TI TO .ellipsis := Heap.get?_push_of_some _ hz₅
 refine wpAny_bind (wpAny_setField_rec hz₆ (by simp) fun h₇ hz₇ hs₇ => ?_); replace hz₇ : IsZip h₇ z TI TO (rawInt h₅.objs.size) := hz₇
 refine wpAny_setField_rec hz₇ (by simp) fun h₈ hz₈ hs₈ => ?_; replace hz₈ : IsZip h₈ z TI TO (rawInt h₅.objs.size) := hz₈
 have up : ∀ c o, c ≠ z → h₅.get? c = some o → h₈.get? c = some o := fun c o e1 e => hs₈.extBut _ _ e1 (hs₇.extBut _ _ e1 (Heap.get?_push_of_some _ e))
 have hT₈ : IsPair h₈ h₅.objs.size x y := hs₈.extBut _ _ (Nat.ne_of_gt hzlt) (hs₇.extBut _ _ (Nat.ne_of_gt hzlt) (Heap.get?_push_size _ rfl))
 rw [hsz] at hz₈ hT₈
 refine wpAny_pure ⟨_, rfl, ?_⟩; show Q (.ref h₅.objs.size) _; rw [hsz]
 exact hQ x y h₈ _ hx hy hz₈ (up _ _ D.Oz hTO₅) (D1.frame _ _ _ w1 fun c hc o e => up c o (fun q => D.z1 (q ▸ hc)) e) (D2.frame _ _ _ w2 fun c hc o e => up c o (fun q => D.z2 (q ▸ hc)) e) hT₈ fun c o e1 e2 e3 e4 e => up c o e1 (hk₅ c o e1 e2 e3 e4 e)
theorem zipD_end {z TI TO i1 i2 : Addr} {f1 f2 : List Addr} {n1 : Nat} {P1 : Nat → Value → Prop} {S1 : Nat → Heap → Prop} {Q : Fin → Shared → Prop} (D1 : Draws prog w A i1 f1 n1 P1 S1) (D : ZipFar z TI TO i1 i2 f1 f2)
  (hz : IsZip s.heap z TI TO .none) (hTI : IsPair s.heap TI (.ref i1) (.ref i2)) (t1 : S1 n1 s.heap)
  (hE : ∀ h' e, (∀ c o, c ≠ z → c ≠ i1 → s.heap.get? c = some o → h'.get? c = some o) → (∃ o, h'.get? e = some o ∧ o.cls = .type "StopIteration") → E (.ref e) { s with heap := h' }) :
  wpAny (model prog w) A (Builtin.«zip.__next__» ⟨[.ref z], []⟩) Q E s := by
 show wpAny _ _ (field (.ref z) 2 >>= _) _ _ _; refine wpAny_bind (wpAny_field hz rfl (x := .bool false) rfl ?_); show wpAny _ _ (field (.ref z) 3 >>= _) _ _ _
 refine wpAny_bind (wpAny_field hz rfl (x := .ref TI) rfl (wpAny_bind (wpAny_seqItems hTI rfl ?_)))
 show wpAny _ _ (Builtin.SmallTypes.ownedTupleIsFree (.ref z) >>= _) _ _ _; refine wpAny_bind ?_; unfold Builtin.SmallTypes.ownedTupleIsFree
 refine wpAny_bind (wpAny_field hz rfl (x := .none) rfl (wpAny_pure ?_)); simp only [if_true]
 refine wpAny_bind (wpAny_rule (wpAny_bind (wpAny_field hz rfl (x := .ref TO) rfl (wpAny_bind (wpAny_setField_rec hz (by simp) fun h₁ hz₁ hs₁ => ?_)))))
 replace hz₁ : IsZip h₁ z TI TO .ellipsis := hz₁
 refine wpAny_bind ?_; simp only [List.zipIdx_cons, List.zipIdx_nil, List.forIn_cons, List.forIn_nil]
 refine wpAny_bind (wpAny_bind (wpAny_onRaise ?_)); show wpAny _ _ (Builtin.SmallTypes.nextOf (.ref i1) >>= _) _ _ _
 have u1 : S1 n1 h₁ := D1.frame n1 _ _ t1 fun c hc o e => hs₁.extBut _ _ (fun q => D.z1 (q ▸ hc)) e
 refine wpAny_bind (D1.done _ _ _ u1 fun h₂ e hs₂ he => ?_)
 obtain ⟨oe, hoe, hce⟩ := he
 have hz₂ : IsZip h₂ z TI TO .ellipsis := hs₂ _ _ D.iz.symm hz₁
 have hez : e ≠ z := fun x => by subst x; rw [hz₂] at hoe; cases hoe; simp at hce
 refine wpAny_setField_rec hz₂ (by simp) fun h₃ _ hs₃ => hE h₃ e (fun c o c1 c3 x => hs₃.extBut _ _ c1 (hs₂ _ _ c3 (hs₁.extBut _ _ c1 x))) ⟨oe, hs₃.extBut _ _ hez hoe, hce⟩
theorem nextZ_item {z TI TO i1 i2 : Addr} {f1 f2 : List Addr} {n1 n2 k : Nat} {P1 P2 : Nat → Value → Prop} {S1 S2 : Nat → Heap → Prop} {a b : Value} {Q : Option Value → Shared → Prop} (D1 : Draws prog w A.in1 i1 f1 n1 P1 S1) (D2 : Draws prog w A.in1 i2 f2 n2 P2 S2) (D : ZipFar z TI TO i1 i2 f1 f2)
  (hz : IsZip s.heap z TI TO .none) (hTI : IsPair s.heap TI (.ref i1) (.ref i2)) (hTO : IsPair s.heap TO a b) (t1 : S1 k s.heap) (t2 : S2 k s.heap) (hk1 : k < n1) (hk2 : k < n2)
  (hQ : ∀ x y h' tk, P1 k x → P2 k y → IsZip h' z TI TO (rawInt s.heap.objs.size) → IsPair h' TO x y → S1 (k + 1) h' → S2 (k + 1) h' → IsPair h' s.heap.objs.size x y →
   (∀ c o, c ≠ z → c ≠ TO → c ≠ i1 → c ≠ i2 → s.heap.get? c = some o → h'.get? c = some o) → Q (some (.ref s.heap.objs.size)) { s with heap := h', toks := tk }) :
  wpAny (model prog w) A (pyNext (.ref z)) Q E s := by
 have hT : s.TypeIs (.ref z) "zip" := ⟨_, hz, rfl⟩
 unfold pyNext
 exact wpAny_bind (wpAny_attempt (wpAny_callSpecial?_slot (name := Str.ofString "__next__") hT F.slot_zip_next (wpAny_call_entry F.slot_zip_next hT F.entry_zip_next
   (zipD_item D1 D2 D hz hTI hTO t1 t2 hk1 hk2 fun x y h' tk q1 q2 a1 a2 a3 a4 a5 a6 => wpAny_pure (hQ x y h' tk q1 q2 a1 a2 a3 a4 a5 a6)) (F.args_zip_next_1 _))))
theorem nextZ_end {z TI TO i1 i2 : Addr} {f1 f2 : List Addr} {n1 : Nat} {P1 : Nat → Value → Prop} {S1 : Nat → Heap → Prop} {Q : Option Value → Shared → Prop} (D1 : Draws prog w A.in1 i1 f1 n1 P1 S1) (D : ZipFar z TI TO i1 i2 f1 f2)
  (hz : IsZip s.heap z TI TO .none) (hTI : IsPair s.heap TI (.ref i1) (.ref i2)) (t1 : S1 n1 s.heap)
  (hQ : ∀ h', (∀ c o, c ≠ z → c ≠ i1 → s.heap.get? c = some o → h'.get? c = some o) → Q none { s with heap := h' }) : wpAny (model prog w) A (pyNext (.ref z)) Q E s := by
 have hT : s.TypeIs (.ref z) "zip" := ⟨_, hz, rfl⟩
 unfold pyNext
 refine wpAny_bind (wpAny_attempt (wpAny_callSpecial?_slot (name := Str.ofString "__next__") hT F.slot_zip_next (wpAny_call_entry F.slot_zip_next hT F.entry_zip_next (zipD_end D1 D hz hTI t1 fun h' e hk he => ?_) (F.args_zip_next_1 _))))
 obtain ⟨o, ho, hc⟩ := he
 exact wpAny_bind (wpAny_isInstance (T := "StopIteration") (b := true) ⟨o, ho, hc⟩ isSubtype_stop (wpAny_pure (hQ _ hk)))
end
noncomputable abbrev zT1 (h : Heap) (l1 : Addr) : Heap := h.push { cls := .type "tuple_iterator", data := .fields #[.ref l1, .int 0 0] }
noncomputable abbrev zT2 (h : Heap) (l1 l2 : Addr) : Heap := (zT1 h l1).push { cls := .type "tuple_iterator", data := .fields #[.ref l2, .int 0 0] }
noncomputable abbrev zT3 (h : Heap) (l1 l2 : Addr) : Heap := (zT2 h l1 l2).push { cls := .type "tuple", data := .seq #[.ref h.objs.size, .ref (zT1 h l1).objs.size] }
noncomputable abbrev zT4 (h : Heap) (l1 l2 : Addr) : Heap := (zT3 h l1 l2).push { cls := .type "tuple", data := .seq #[.none, .none] }
noncomputable abbrev zT5 (h : Heap) (l1 l2 : Addr) : Heap := (zT4 h l1 l2).push { cls := .type "zip", data := .fields #[.none, .bool false, .bool false, .ref (zT2 h l1 l2).objs.size, .ref (zT3 h l1 l2).objs.size] }
theorem meets_zip_newT (l1 l2 : Addr) (xs ys : Array Value) :
  Meets (Builtin.«zip.__new__» ⟨[.type "zip", .ref l1, .ref l2], []⟩) (fun _ R s => s.heap.IsTuple l1 xs ∧ s.heap.IsTuple l2 ys ∧ R (.ok (.ret (.ref (zT4 s.heap l1 l2).objs.size))) { s with heap := zT5 s.heap l1 l2 }) :=
 .of_wp fun prog w A R s h => by
  obtain ⟨hp, g, d, tk, os⟩ := s; obtain ⟨p1, p2, h⟩ := h
  have isz := sub_zip
  have q1 : Heap.IsTuple (Shared.heap ⟨hp, g, d, tk, os⟩) l1 xs := p1
  have q2 : Heap.IsTuple (Shared.heap ⟨hp.push { cls := .type "tuple_iterator", data := .fields #[.ref l1, .int 0 0] }, g, d, tk, os⟩) l2 ys := let ⟨o, ho, r⟩ := p2; ⟨o, Heap.get?_push_of_some _ ho, r⟩
  wp_walk using wpAny_pyIter_tuple q1, wpAny_pyIter_tuple q2
  exact ⟨_, rfl, h⟩
section
variable {prog : Program} {w : World} {A : Around} {E : Value → Shared → Prop} {s : Shared}
theorem call_zip_T {l1 l2 : Addr} {xs ys : Array Value} {Q : Value → Shared → Prop} (p1 : s.heap.IsTuple l1 xs) (p2 : s.heap.IsTuple l2 ys)
  (h : ∀ h', IsZip h' (s.heap.objs.size + 4) (s.heap.objs.size + 2) (s.heap.objs.size + 3) .none → IsPair h' (s.heap.objs.size + 2) (.ref s.heap.objs.size) (.ref (s.heap.objs.size + 1)) →
   IsPair h' (s.heap.objs.size + 3) .none .none → h'.IsTupleIter s.heap.objs.size l1 0 → h'.IsTupleIter (s.heap.objs.size + 1) l2 0 → h'.objs.size = s.heap.objs.size + 5 →
   (∀ c o, s.heap.get? c = some o → h'.get? c = some o) → Q (.ref (s.heap.objs.size + 4)) { s with heap := h' }) :
  wpAny (model prog w) A (call (.type "zip") [.ref l1, .ref l2]) Q E s := by
 refine callType_new F.called_zip (by decide) (F.typeCall_zip_2 _ _) (F.newCall_zip_2 _ _) (fun obj => F.args_object_init_3 obj _ _) F.entry_zip_new (meets_zip_newT l1 l2 xs ys) ⟨p1, p2, ?_⟩
 have y1 : (zT1 s.heap l1).objs.size = s.heap.objs.size + 1 := Heap.size_push ..
 have y2 : (zT2 s.heap l1 l2).objs.size = s.heap.objs.size + 2 := by rw [Heap.size_push, y1]
 have y3 : (zT3 s.heap l1 l2).objs.size = s.heap.objs.size + 3 := by rw [Heap.size_push, y2]
 have y4 : (zT4 s.heap l1 l2).objs.size = s.heap.objs.size + 4 := by rw [Heap.size_push, y3]
 have y5 : (zT5 s.heap l1 l2).objs.size = s.heap.objs.size + 5 := by rw [Heap.size_push, y4]
 have r5 : (zT5 s.heap l1 l2).get? (zT4 s.heap l1 l2).objs.size = some _ := Heap.get?_push_size _ rfl
 have r4 : (zT5 s.heap l1 l2).get? (zT3 s.heap l1 l2).objs.size = some _ := Heap.get?_push_of_some _ (Heap.get?_push_size _ rfl)
 have r3 : (zT5 s.heap l1 l2).get? (zT2 s.heap l1 l2).objs.size = some _ := Heap.get?_push_of_some _ (Heap.get?_push_of_some _ (Heap.get?_push_size _ rfl))
 have r2 : (zT5 s.heap l1 l2).get? (zT1 s.heap l1).objs.size = some _ := Heap.get?_push_of_some _ (Heap.get?_push_of_some _ (Heap.get?_push_of_some _ (Heap.get?_push_size _ rfl)))
 have r1 : (zT5 s.heap l1 l2).get? s.heap.objs.size = some _ := Heap.get?_push_of_some _ (Heap.get?_push_of_some _ (Heap.get?_push_of_some _ (Heap.get?_push_of_some _ (Heap.get?_push_size _ rfl))))
 show _ ∧ _
 rw [y2, y3, y4] at r5; rw [y1, y2] at r3; rw [y3] at r4; rw [y1] at r2; rw [y4]
 exact ⟨⟨_, r5, rfl⟩, h _ r5 r3 r4 ⟨_, r1, rfl, rfl⟩ ⟨_, r2, rfl, rfl⟩ y5 fun c o x => Heap.get?_push_of_some _ (Heap.get?_push_of_some _ (Heap.get?_push_of_some _ (Heap.get?_push_of_some _ (Heap.get?_push_of_some _ x))))⟩
end
end PySem
namespace L2
open PySem PySem.Spec PyProof.Rows
structure SeqK where
 Sq : PySem.W.Frag → Hp → Addr → List V → Prop
 isq : Heap → Addr → Array Value → Prop
 iit : Heap → Addr → Addr → Nat → Prop
structure SeqK.Ok (k : SeqK) : Prop where
 get : ∀ {X : Cx} {pins : List (Addr × Obj)} {σ : St} {H : Hp} {s : Shared} {a : Addr} {xs : List V}, Inv X pins σ H s → k.Sq X.K H a xs → ∃ its : List Value, Vals xs its ∧ k.isq s.heap a its.toArray
 inj : ∀ {X : Cx} {pins : List (Addr × Obj)} {σ : St} {H : Hp} {s : Shared} {a : Addr} {xs ys : List V}, Inv X pins σ H s → k.Sq X.K H a xs → k.Sq X.K H a ys → xs = ys
 lt : ∀ {h : Heap} {a : Addr} {its : Array Value}, k.isq h a its → a < h.objs.size
 dr : ∀ {prog : Program} {w : World} {A : Around}, A.handled = none → ∀ (it l : Addr), l ≠ it → ∀ items : Array Value, Draws prog w A it [it, l] items.size (fun i v => items[i]? = some v) (fun i h => k.iit h it l i ∧ k.isq h l items)
 obj : ∀ {h : Heap} {it l : Addr} {i : Nat}, k.iit h it l i → ∃ o, h.get? it = some o ∧ ∀ v, o.data ≠ .cell v
 «at» : ∀ {h h' : Heap} {it l : Addr} {i : Nat}, k.iit h it l i → (∀ o, h.get? it = some o → h'.get? it = some o) → k.iit h' it l i
 zip : ∀ {prog : Program} {w : World} {A : Around} {E : Value → Shared → Prop} {s : Shared} {l1 l2 : Addr} {xs ys : Array Value} {Q : Value → Shared → Prop}, k.isq s.heap l1 xs → k.isq s.heap l2 ys →
  (∀ h', IsZip h' (s.heap.objs.size + 4) (s.heap.objs.size + 2) (s.heap.objs.size + 3) .none → IsPair h' (s.heap.objs.size + 2) (.ref s.heap.objs.size) (.ref (s.heap.objs.size + 1)) → IsPair h' (s.heap.objs.size + 3) .none .none →
   k.iit h' s.heap.objs.size l1 0 → k.iit h' (s.heap.objs.size + 1) l2 0 → (∀ c o, s.heap.get? c = some o → h'.get? c = some o) → Q (.ref (s.heap.objs.size + 4)) { s with heap := h' }) → wpAny (model prog w) A (call (.type "zip") [.ref l1, .ref l2]) Q E s
noncomputable def kL : SeqK := ⟨SqL, Heap.IsList, Heap.IsListIter⟩
noncomputable def kT : SeqK := ⟨SqT, Heap.IsTuple, Heap.IsTupleIter⟩
theorem kL_ok : kL.Ok where
 get := fun I h => let ⟨its, r, p, _⟩ := I.list h; ⟨its, r, p.isList⟩
 inj := fun I h1 h2 => I.list_inj h1 h2
 lt := fun p => let ⟨o, ho, _⟩ := p; Heap.lt_size ho
 dr := fun hh it l hne items => Draws.list hh it l hne items
 obj := fun ⟨o, e, c, d⟩ => ⟨o, e, fun v z => by rw [d] at z; cases z⟩
 «at» := fun x k => Heap.IsListIter.at x k
 zip := fun p1 p2 h => call_zip_2 p1 p2 fun h' a1 a2 a3 a4 a5 _ a7 => h h' a1 a2 a3 a4 a5 a7
theorem kT_ok : kT.Ok where
 get := fun I h => let ⟨its, r, p, _⟩ := I.tuple h; ⟨its, r, p⟩
 inj := fun I h1 h2 => I.tuple_inj h1 h2
 lt := fun p => let ⟨o, ho, _⟩ := p; Heap.lt_size ho
 dr := fun hh it l hne items => Draws.tuple hh it l hne items
 obj := fun ⟨o, e, c, d⟩ => ⟨o, e, fun v z => by rw [d] at z; cases z⟩
 «at» := fun x k => Heap.IsTupleIter.at x k
 zip := fun p1 p2 h => call_zip_T p1 p2 fun h' a1 a2 a3 a4 a5 _ a7 => h h' a1 a2 a3 a4 a5 a7
noncomputable def Itz (S1 S2 : Hp → List V → Prop) : It :=
 ⟨fun i H => ∃ xs ys x y, S1 H xs ∧ S2 H ys ∧ xs[i]? = some x ∧ ys[i]? = some y, fun i H v H' => ∃ p x y, v = .ref p ∧ H p = none ∧ H' = upd H p (.tup [x, y]) ∧ (∀ xs, S1 H xs → xs[i]? = some x) ∧ ∀ ys, S2 H ys → ys[i]? = some y, fun i H => ∃ xs, S1 H xs ∧ xs.length = i⟩
theorem turn_zip {P : Program} {w : World} {K : PySem.W.Frag} {es : List Expr} {x1} {pos : Pos} {k : SeqK} (ok : k.Ok) (z TI TO i1 i2 a b : Addr) (D : ZipFar z TI TO i1 i2 [i1, a] [i2, b]) (ha : a ≠ i1) (hb : b ≠ i2) :
  Turn P w K (.Tuple es x1 pos) (Itz (fun H xs => k.Sq K H a xs) fun H ys => k.Sq K H b ys) [z, TI, TO, i1, i2] z (fun i h => IsZip h z TI TO .none ∧ IsPair h TI (.ref i1) (.ref i2) ∧ (∃ u v, IsPair h TO u v) ∧ k.iit h i1 a i ∧ k.iit h i2 b i) where
 mem := by simp
 obj := fun i h st c hc => by
  obtain ⟨hz, hTI, ⟨u, v, hTO⟩, h1, h2⟩ := st
  simp only [List.mem_cons, List.not_mem_nil, or_false] at hc
  rcases hc with rfl | rfl | rfl | rfl | rfl
  ·exact ⟨_, hz, fun v z => by cases z⟩
  ·exact ⟨_, hTI, fun v z => by cases z⟩
  ·exact ⟨_, hTO, fun v z => by cases z⟩
  ·exact ok.obj h1
  ·exact ok.obj h2
 keep := fun i h h' st kp => by
  obtain ⟨hz, hTI, ⟨u, v, hTO⟩, h1, h2⟩ := st
  exact ⟨kp z (by simp) _ hz, kp TI (by simp) _ hTI, ⟨u, v, kp TO (by simp) _ hTO⟩, ok.at h1 fun o q => kp i1 (by simp) o q, ok.at h2 fun o q => kp i2 (by simp) o q⟩
 item := by
  intro X hP hw hK hc i pins s σ H E I hf st hg
  subst hP hw hK
  obtain ⟨hz, hTI, ⟨u, v, hTO⟩, h1, h2⟩ := st
  obtain ⟨xs, ys, x, y, q1, q2, e1, e2⟩ := hg
  obtain ⟨its, rv, p1⟩ := ok.get I q1
  obtain ⟨jts, rw', p2⟩ := ok.get I q2
  obtain ⟨ux, hux, rx⟩ := rv.get e1
  obtain ⟨uy, huy, ry⟩ := rw'.get e2
  have l1 : i < its.toArray.size := by rw [List.size_toArray]; exact (List.getElem?_eq_some_iff.mp hux).1
  have l2 : i < jts.toArray.size := by rw [List.size_toArray]; exact (List.getElem?_eq_some_iff.mp huy).1
  have hh : X.A.in1.handled = none := by simp [I.ok.hd hc]
  refine nextZ_item (ok.dr hh i1 a ha its.toArray) (ok.dr hh i2 b hb jts.toArray) D hz hTI hTO ⟨h1, p1⟩ ⟨h2, p2⟩ l1 l2 fun vx vy h' tk hvx hvy g1 g2 g3 g4 g5 g6 => ?_
  have ex : vx = ux := by
   have e : its[i]? = some vx := by simpa using hvx
   rw [hux] at e; exact (Option.some.inj e).symm
  have ey : vy = uy := by
   have e : jts[i]? = some vy := by simpa using hvy
   rw [huy] at e; exact (Option.some.inj e).symm
  subst ex ey
  refine ⟨_, rfl, wpAny_letOwnedTupleGo_zip (s := { s with heap := h', toks := tk }) g1 fun h2' hz2 hs2 => ?_⟩
  have hn : H s.heap.objs.size = none := I.hok.fresh (Nat.le_refl _)
  have lz : ∀ {c o}, s.heap.get? c = some o → s.heap.objs.size ≠ c := fun e => Nat.ne_of_gt (Heap.lt_size e)
  have li1 : s.heap.objs.size ≠ i1 := let ⟨o, e, _⟩ := ok.obj h1; lz e
  have li2 : s.heap.objs.size ≠ i2 := let ⟨o, e, _⟩ := ok.obj h2; lz e
  have kp : ∀ c o, c ∉ [z, TI, TO, i1, i2] → s.heap.get? c = some o → h2'.get? c = some o := fun c o hc' q => by
   have c1 : c ≠ z := fun e => hc' (by simp [e])
   exact (hs2.2 c c1).trans (g6 c o c1 (fun e => hc' (by simp [e])) (fun e => hc' (by simp [e])) (fun e => hc' (by simp [e])) q)
  have hT2 : IsPair h2' s.heap.objs.size vx vy := (hs2.2 _ (lz hz)).trans g5
  have I2 : Inv X pins σ (upd H s.heap.objs.size (.tup [x, y])) { s with heap := h2', toks := tk } := I.turnLaid (fp := [z, TI, TO, i1, i2]) kp hf (Nat.le_refl _) ⟨by show 2 ≤ sizeLine; rw [sizeLine_eq]; decide, [vx, vy], .cons rx (.cons ry .nil), ⟨_, hT2, rfl, _, rfl⟩⟩
  have hTI2 : IsPair h2' TI (.ref i1) (.ref i2) := (hs2.2 _ D.Iz).trans (g6 _ _ D.Iz D.IO D.I1 D.I2 hTI)
  refine ⟨.ref s.heap.objs.size, _, I2, rfl, ⟨s.heap.objs.size, x, y, rfl, hn, rfl, fun zs hz' => by rw [ok.inj I hz' q1]; exact e1, fun zs hz' => by rw [ok.inj I hz' q2]; exact e2⟩, ⟨hz2, hTI2, ⟨_, _, (hs2.2 _ D.Oz).trans g2⟩, ok.at g3.1 fun o q => (hs2.2 _ D.iz).trans q, ok.at g4.1 fun o q => (hs2.2 _ D.jz).trans q⟩, fun c hc' => ?_⟩
  have hcz : c ≠ s.heap.objs.size := by
   simp only [List.mem_cons, List.not_mem_nil, or_false] at hc'
   rcases hc' with rfl | rfl | rfl | rfl | rfl
   ·exact (lz hz).symm
   ·exact (lz hTI).symm
   ·exact (lz hTO).symm
   ·exact li1.symm
   ·exact li2.symm
  rw [upd_ne hcz]; exact (hf c hc').1
 done := by
  intro X hP hw hK hc i pins s σ H E I hf st hg
  subst hP hw hK
  obtain ⟨hz, hTI, ⟨u, v, hTO⟩, h1, h2⟩ := st
  obtain ⟨xs, q1, hx⟩ := hg
  obtain ⟨its, rv, p1⟩ := ok.get I q1
  have hl := rv.length
  have hi : its.toArray.size = i := by rw [List.size_toArray, ← hl, hx]
  have hh : X.A.in1.handled = none := by simp [I.ok.hd hc]
  refine nextZ_end (ok.dr hh i1 a ha its.toArray) D hz hTI (by rw [hi]; exact ⟨h1, p1⟩) fun h' hk => ⟨rfl, ?_⟩
  exact I.turnedL (fp := [z, TI, TO, i1, i2]) (t' := s.toks) (fun c o hc' q => hk c o (fun e => hc' (by simp [e])) (fun e => hc' (by simp [e])) q) hf
 self := fun _ _ _ _ _ st h => wpAny_pyIter_zip st.1 h
noncomputable def iZip (k : SeqK) (K : PySem.W.Frag) (ta : TA) : TI := fun σ H R => ta σ H fun vs H1 => ∃ a b xs ys, vs = [.ref a, .ref b] ∧ k.Sq K H1 a xs ∧ k.Sq K H1 b ys ∧ R (Itz (fun H xs => k.Sq K H a xs) fun H ys => k.Sq K H b ys) H1
section
variable {X : Cx}
theorem pi_zip {a b : Expr} {ta : TA} {p pos : Pos} {es : List Expr} {x1} {tpos : Pos} {k : SeqK} (ok : k.Ok) (hg : Gl X "zip") (hm : X.mg "zip" = none) (ha : PA X [a, b] ta) (hs : starEach [a, b] X.env = [(false, eval a X.env), (false, eval b X.env)] := by rfl) (hs2 : starEach [b] X.env = [(false, eval b X.env)] := by rfl) :
  PI X (.Tuple es x1 tpos) (.Call (.Name "zip" p) [a, b] [] pos) (iZip k X.K ta) := by
 intro pins s σ H R I h
 refine Call_ (ld_blt I hg hm boot_zip (PyProof.Rows.callWith_type1 (thn (ha pos pins s σ H _ I h) fun us s1 ⟨vs, H1, I1, r1, q1⟩ => ?_) (by rw [hs, hs2]) (by rw [hs2]; rfl)))
 obtain ⟨a', b', xs, ys, e, q1, q2, q⟩ := q1
 subst e
 obtain ⟨u, v, rfl, rx, ry⟩ := vals2 r1
 cases rx
 cases ry
 obtain ⟨its, rv, p1⟩ := ok.get I1 q1
 obtain ⟨jts, rw', p2⟩ := ok.get I1 q2
 have l1 := ok.lt p1
 have l2 := ok.lt p2
 refine ok.zip p1 p2 fun h' a1 a2 a3 a4 a5 a7 => ?_
 refine wpAny_pyIter_zip (s := { s1 with heap := h' }) a1 ?_
 have I2 : Inv X pins σ H1 { s1 with heap := h' } := I1.kept (t' := s1.toks) a7
 have far := zipFar_new s1.heap.objs.size a' b' l1 l2
 refine ⟨s1.heap.objs.size + 4, [s1.heap.objs.size + 4, s1.heap.objs.size + 2, s1.heap.objs.size + 3, s1.heap.objs.size, s1.heap.objs.size + 1], _, _, H1, rfl, I2, turn_zip ok _ _ _ _ _ a' b' far (Nat.ne_of_lt l1) (Nat.ne_of_lt (Nat.lt_succ_of_lt l2)), ⟨a1, a2, ⟨_, _, a3⟩, a4, a5⟩, fun c hc' => ?_, q⟩
 have hge : s1.heap.objs.size ≤ c := by
  simp only [List.mem_cons, List.not_mem_nil, or_false] at hc'
  rcases hc' with rfl | rfl | rfl | rfl | rfl
  ·exact Nat.le_add_right _ 4
  ·exact Nat.le_add_right _ 2
  ·exact Nat.le_add_right _ 3
  ·exact Nat.le_refl _
  ·exact Nat.le_succ _
 exact I1.fpOk hge (I1.hok.fresh hge)
theorem for_zip {S1 S2 : Hp → List V → Prop} {xs ys : List V} {g : TG} {tb : TS} {D : Ends} {σ : St} {H : Hp} (hlen : xs.length = ys.length) (Pv : Nat → St → Hp → Prop) (h0 : Pv 0 σ H) (hl : ∀ i σ H, Pv i σ H → S1 H xs ∧ S2 H ys)
  (hs : ∀ i x y p σ H, xs[i]? = some x → ys[i]? = some y → Pv i σ H → H p = none → g (.ref p) σ (upd H p (.tup [x, y])) fun σ2 H2 => tb { D with nx := Pv (i + 1), ct := Pv (i + 1), bk := D.nx } σ2 H2) (hd : ∀ σ H, Pv xs.length σ H → D.nx σ H) :
  tForJ (Itz S1 S2) g tb D σ H := by
 refine ⟨fun i m σ H => m = xs.length - i ∧ i ≤ xs.length ∧ Pv i σ H, ⟨xs.length, by simp, Nat.zero_le _, h0⟩, ?_⟩
 rintro i m σ H ⟨rfl, hi, p⟩
 obtain ⟨q1, q2⟩ := hl i σ H p
 by_cases hlt : i < xs.length
 ·have hlt2 : i < ys.length := by omega
  refine .inr ⟨⟨xs, ys, xs[i], ys[i], q1, q2, by simp [hlt], by simp [hlt2]⟩, Pv (i + 1), fun σ' H' p' => ⟨xs.length - (i + 1), by omega, rfl, hlt, p'⟩, fun x H' y => ?_⟩
  obtain ⟨pp, a, b, e1, e2, e3, e4, e5⟩ := y
  subst e1 e3
  exact hs i a b pp σ H (e4 xs q1) (e5 ys q2) p e2
 ·have e : i = xs.length := by omega
  subst e
  exact .inl ⟨⟨xs, q1, rfl⟩, hd σ H p⟩
end
end L2
namespace L2
open PySem PySem.Spec PyProof.Rows
section
variable {X : Cx}
theorem preSum_take (ns : List Int) : ∀ j : Nat, preSum (fun i => (ns[i]?).getD 0) j = (ns.take j).sum
 | 0 => by simp [preSum]
 | j + 1 => by
  have ih := preSum_take ns j
  rw [List.take_succ, List.sum_append]
  show preSum (fun i => (ns[i]?).getD 0) j + (ns[j]?).getD 0 = _
  rw [ih]
  cases ns[j]? <;> simp
theorem sum_small {B : Int} (hB : 0 ≤ B) : ∀ {ns : List Int}, (∀ n ∈ ns, -B ≤ n ∧ n ≤ B) → -(B * ns.length) ≤ ns.sum ∧ ns.sum ≤ B * ns.length
 | [], _ => by simp
 | n :: ns, h => by
  have ih := sum_small hB (ns := ns) fun m hm => h m (List.mem_cons_of_mem _ hm)
  have h0 := h n List.mem_cons_self
  rw [List.sum_cons, List.length_cons]
  have e : B * ((ns.length + 1 : Nat) : Int) = B * (ns.length : Int) + B := by
   rw [Int.natCast_add, Int.mul_add]; simp
  rw [e]
  constructor <;> omega
theorem call_sumI (hc : X.calm = true) : CallR X (.builtin "sum") (fun xs H Q => ∃ (p : Addr) (ns : List Int), xs = [.ref p] ∧ SqL X.K H p (ns.map V.int) ∧ ns.length ≤ 1000 ∧ (∀ n ∈ ns, -1000 ≤ n ∧ n ≤ 1000) ∧ Q (.int ns.sum) H) := by
 intro pins s σ H xs us Q I r h
 obtain ⟨p, ns, rfl, hq, hl, hn, q⟩ := h
 obtain ⟨u, rfl, rx⟩ := vals1 r
 cases rx
 obtain ⟨its, rv, pl, hz⟩ := I.list hq
 have hlen := rv.length
 rw [List.length_map] at hlen
 have hlt : p < s.heap.objs.size := by obtain ⟨_, e, _⟩ := pl.isList; exact Heap.lt_size e
 have long : ∀ z : Int, -1000000 ≤ z → z ≤ 1000000 → InLong z := fun z h1 h2 => by unfold InLong; omega
 refine call_sum_walk (wpAny_pyIter_list pl.isList ?_)
 refine ⟨s.heap.objs.size, [s.heap.objs.size, p], [s.heap.objs.size], its.toArray.size, _, _, fun i => (ns[i]?).getD 0, rfl, Walks.list (A := X.A.in1) (by simp [I.ok.hd hc]) _ p (Nat.ne_of_lt hlt) its.toArray, ⟨⟨_, Heap.get?_push_size _ rfl, rfl, rfl⟩, pl.isList.push _⟩, fun b hb => ?_, fun i v hP => ?_, fun j hj => ?_, fun h' tk t' hk => ?_⟩
 ·show b < (s.heap.push _).objs.size
  rw [Heap.size_push]
  rcases List.mem_cons.mp hb with z | z
  ·rw [z]; exact Nat.lt_succ_self _
  ·rw [List.mem_singleton.mp z]; exact Nat.lt_succ_of_lt hlt
 ·have hP' : its[i]? = some v := by simpa using hP
  have hi : i < ns.length := by rw [hlen]; exact (List.getElem?_eq_some_iff.mp hP').1
  obtain ⟨u, hu, ru⟩ := rv.get (i := i) (x := .int ns[i]) (by rw [List.getElem?_map]; simp [hi])
  rw [hP'] at hu; cases hu
  obtain ⟨t, rfl⟩ := ru
  exact ⟨t, by simp [hi]⟩
 ·have hj' : j < ns.length := by rw [List.size_toArray] at hj; omega
  refine ⟨?_, ?_⟩
  ·have := hn ns[j] (List.getElem_mem hj')
   have e : (ns[j]?).getD 0 = ns[j] := by simp [hj']
   show InLong ((ns[j]?).getD 0)
   rw [e]; exact long _ (by omega) (by omega)
  ·rw [preSum_take]
   have := sum_small (B := 1000) (by decide) (ns := ns.take (j + 1)) fun n h => hn n (List.mem_of_mem_take h)
   have h2 : (ns.take (j + 1)).length ≤ 1000 := by rw [List.length_take]; omega
   exact long _ (by omega) (by omega)
 ·have e : preSum (fun i => (ns[i]?).getD 0) its.toArray.size = ns.sum := by
   rw [preSum_take, List.size_toArray, ← hlen, List.take_of_length_le (Nat.le_refl _)]
  rw [e]
  exact ⟨.int _, H, I.kept (h' := h') (t' := tk) (LSm.kept_iter hk), ⟨_, rfl⟩, q⟩
theorem eq_place {pins : List (Addr × Obj)} {σ : St} {H : Hp} {s : Shared} {A : Around} {a p : Addr} {c d : Int × Int} (I : Inv X pins σ H s) (hu : A.units < cLine) (ha : H a = some (.tup [.int d.1, .int d.2])) (hp : H p = some (.tup [.int c.1, .int c.2])) : SeqAt.EqAt A s (.ref a) (.ref p) (decide (d = c)) := by
 by_cases hap : a = p
 ·subst hap
  rw [ha] at hp
  have e : d = c := by
   injection hp with z; injection z with z; injection z with z1 z2; injection z2 with z2 _
   exact Prod.ext (V.int.inj z1) (V.int.inj z2)
  rw [decide_eq_true e]
  exact SeqAt.EqAt.same _
 ·obtain ⟨its, r1, p1, _⟩ := I.tuple (SqT.of ha)
  obtain ⟨jts, r2, p2, _⟩ := I.tuple (SqT.of hp)
  obtain ⟨x1, x2, rfl, ⟨t1, rfl⟩, ⟨t2, rfl⟩⟩ := r1.two
  obtain ⟨y1, y2, rfl, ⟨u1, rfl⟩, ⟨u2, rfl⟩⟩ := r2.two
  have key : SeqAt.RcAt A s (.ref a) (.ref p) ((List.range (min 2 2)).all (fun j => if j = 0 then d.1 == c.1 else d.2 == c.2) && (2 : Nat) == 2) := SeqAt.RcAt.tuples (items := #[.int d.1 t1, .int d.2 t2]) (items2 := #[.int c.1 u1, .int c.2 u2]) p1 p2 hu fun j h1 h2 => by
   match j, h1, h2 with
   | 0, _, _ => exact SeqAt.EqAt.int_int _ _ _ _
   | 1, _, _ => exact SeqAt.EqAt.int_int _ _ _ _
  have e : ((List.range (min 2 2)).all (fun j => if j = 0 then d.1 == c.1 else d.2 == c.2) && (2 : Nat) == 2) = decide (d = c) := by
   obtain ⟨d1, d2⟩ := d
   obtain ⟨c1, c2⟩ := c
   show (List.all [0, 1] _ && true) = _
   simp only [List.all_cons, List.all_nil, Bool.and_true, if_true, Nat.one_ne_zero, if_false]
   rw [Bool.eq_iff_iff]
   simp
  rw [e] at key
  exact SeqAt.EqAt.of_refs hap key
noncomputable def rInP : R2 := fun x y H Q => ∃ p l ps cs c, x = .ref p ∧ y = .ref l ∧ H p = some (.tup [.int c.1, .int c.2]) ∧ H l = some (.lst (ps.map V.ref)) ∧ PlAt H ps cs ∧ Q (.bl (decide (c ∈ cs))) H
theorem any_place {H : Hp} {c : Int × Int} {e : Value → Bool} (he : ∀ a d, H a = some (.tup [.int d.1, .int d.2]) → e (.ref a) = decide (d = c)) : ∀ {ps : List Addr} {cs : List (Int × Int)} {us : List Value}, PlAt H ps cs → Vals (ps.map V.ref) us → us.any e = decide (c ∈ cs)
 | _, _, _, .nil, .nil => by simp
 | p :: ps, d :: cs, u :: us, .cons h t, .cons r v => by
  cases (show u = Value.ref p from r)
  rw [List.any_cons, he p d h, any_place he t v, Bool.eq_iff_iff]
  simp only [Bool.or_eq_true, decide_eq_true_eq, List.mem_cons]
  constructor
  ·rintro (z | z)
   ·exact .inl z.symm
   ·exact .inr z
  ·rintro (z | z)
   ·exact .inl z.symm
   ·exact .inr z
theorem mem_place {H : Hp} : ∀ {ps : List Addr} {cs : List (Int × Int)} {us : List Value}, PlAt H ps cs → Vals (ps.map V.ref) us → ∀ u ∈ us, ∃ (a : Addr) (d : Int × Int), u = .ref a ∧ H a = some (.tup [.int d.1, .int d.2])
 | _, _, _, .nil, .nil => fun u hu => by cases hu
 | p :: ps, d :: cs, u :: us, .cons h t, .cons r v => fun w hw => by
  cases (show u = Value.ref p from r)
  rcases List.mem_cons.mp hw with z | z
  ·exact ⟨p, d, z, h⟩
  ·exact mem_place t v w z
open Classical in
theorem op_inP (hu : X.A.units + 1 < cLine) : OpR X (compareOp .In) rInP := by
 intro pins s σ H x y v u Q I rx ry h
 obtain ⟨p, l, ps, cs, c, rfl, rfl, hp, hl, hP, q⟩ := h
 cases rx
 cases ry
 obtain ⟨its, r, pl, hz⟩ := I.list (SqL.of hl)
 let e : Value → Bool := fun y => decide (∃ a, y = .ref a ∧ H a = some (.tup [.int c.1, .int c.2]))
 have he : ∀ a d, H a = some (.tup [.int d.1, .int d.2]) → e (.ref a) = decide (d = c) := fun a d ha => by
  show decide (∃ a', Value.ref a = .ref a' ∧ _) = _
  rw [Bool.eq_iff_iff]
  simp only [decide_eq_true_eq]
  constructor
  ·rintro ⟨a', z1, z2⟩
   cases z1
   rw [ha] at z2
   injection z2 with z; injection z with z; injection z with z1 z2; injection z2 with z2 _
   exact Prod.ext (V.int.inj z1) (V.int.inj z2)
  ·intro z
   subst z
   exact ⟨a, rfl, ha⟩
 refine SeqAt.in_listAt e pl.isList (fun y hy => ?_) ⟨.bl _, H, I, rfl, ?_⟩
 ·obtain ⟨a, d, rfl, ha⟩ := mem_place hP r y (by simpa using hy)
  rw [he a d ha]
  exact eq_place I (show X.A.units + 1 < cLine from hu) ha hp
 ·rw [show its.toArray.any e = its.any e by simp, any_place he hP r]
  exact q
end
end L2
namespace L2
open PySem PySem.Spec PyProof.Rows
section
variable {X : Cx} {pins : List (Addr × Obj)} {σ : St} {H H' : Hp} {s s' : Shared} {cls : Value} {e : Addr} {Q : Unit → Shared → Prop} {E' : Value → Shared → Prop}
end
section
variable {X : Cx} {x : Str} {z : Str} {j : Nat} {np p1 cpos pos : Pos} {C : Addr} {E : XK}
end
noncomputable def Cx.within (X : Cx) (e : Addr) (oe : Obj) : Cx := { X with A := X.A.mark (some (.ref e)), calm := false, pn := (e, oe) :: X.pn, xe := fun _ _ => False }
end L2
namespace L2
open PySem PySem.Spec PyProof.Rows
section
variable {X : Cx} {pins : List (Addr × Obj)} {σ : St} {H H' : Hp} {s s' : Shared} {cls a0 : Value} {e : Addr} {oe : Obj} {B h5 : Heap}
end
section
variable {X : Cx} {E : XK} {R : VK} {y n : Str} {i : Nat} {Cy : Addr} {b₀ : Stmt} {suite : List Stmt} {np hp : Pos} {tS : Addr → Obj → TS}
end
section
variable {P : Program} {w : World} {K : PySem.W.Frag} {mg : Str → Option Value} {base : Heap}
end
end L2
namespace L2
open PySem PySem.Spec PyProof.Rows Grd
theorem GridAt.same {H H' : Hp} {a : Addr} {g : Grid} (h : GridAt H a g) (s : Same H H') : GridAt H' a g := h.ext s.ext
theorem comp_grid {K : PySem.W.Frag} {a l : Addr} {g : Grid} {bs : List Addr} {f : Int → Bool} {H0 : Hp} {tt2 : TT} {Q : St → Hp → Prop} (ha : H0 a = some (.tup (bs.map V.ref))) (hG : RowsG H0 bs g) (hl : H0 l = none) (h4 : g.length ≤ 4) (h6 : ∀ xs ∈ g, xs.length ≤ 6)
  (htt : ∀ (at' k : Nat) (r : V) (i : Int) H' (Q' : Bool → Hp → Prop), Q' (f i) H' → tt2 [some (.int at'), some r, some (.int k), some (.int i)] H' Q')
  (hQ : ∀ σ H' ps, Same H0 H' → H' l = some (.lst (ps.map V.ref)) → PlAt H' ps (gridF f g) → Q σ H') :
  tForJ (Ite fun H xs => SqT K H a xs) (gTup K 2 (gCons (gName 0) (gCons (gName 1) gNil))) (tBodyC tAll (tNest (iEnumT K (tCons (tVar 1) tNil)) (gTup K 2 (gCons (gName 2) (gCons (gName 3) gNil))) tt2 (tEmit l (tTup (tCons (tVar 0) (tCons (tVar 2) tNil)))))) (eC Q) [none, none, none, none] (upd H0 l (.lst [])) := by
 have s0 : Same H0 (upd H0 l (.lst [])) := same_upd hl
 have hbs : bs.length = g.length := Paired.length hG
 refine for_enum (xs := bs.map V.ref) (fun i σ H' => σ.length = 4 ∧ Same H0 H' ∧ ∃ ps, H' l = some (.lst (ps.map V.ref)) ∧ PlAt H' ps (gridF f (g.take i)) ∧ ps.length ≤ 6 * i) ⟨rfl, s0, [], by rw [upd_same]; rfl, .nil, Nat.zero_le _⟩ (fun i σ H' _ h => SqT.of (h.2.1 _ _ ha)) ?_ ?_
 ·rintro i r p σ H' hx ⟨hσ, hs, ps, hl', hP, hn⟩ hp
  obtain ⟨b, hbi, rfl⟩ : ∃ b, bs[i]? = some b ∧ V.ref b = r := by
   rw [List.getElem?_map] at hx
   cases e : bs[i]? with
   | none => rw [e] at hx; cases hx
   | some b => rw [e] at hx; exact ⟨b, rfl, Option.some.inj hx⟩
  obtain ⟨xs, hgi, hb⟩ := hG.row hbi
  have hx6 := h6 xs (List.mem_of_getElem? hgi)
  have hi4 : i < 4 := Nat.lt_of_lt_of_le (List.getElem?_eq_some_iff.mp hgi).1 h4
  have s1 : Same H' (upd H' p (.tup [.int i, .ref b])) := same_upd hp
  match σ, hσ with
  | [x0, x1, x2, x3], _ =>
  refine ⟨p, _, rfl, SqT.of upd_same, rfl, _, _, rfl, _, _, rfl, rfl, ?_⟩
  refine body_all ?_
  refine ⟨_, rfl, b, xs.map V.int, rfl, SqT.of (s1 _ _ (hs _ _ hb)), ?_⟩
  refine for_enum (xs := xs.map V.int) (fun j σ H2 => (∃ y2 y3, σ = [some (.int i), some (.ref b), y2, y3]) ∧ Same H0 H2 ∧ ∃ ps, H2 l = some (.lst (ps.map V.ref)) ∧ PlAt H2 ps (gridF f (g.take i) ++ rowF f i (xs.take j)) ∧ ps.length ≤ 6 * i + j) ?_ (fun j σ H2 _ h => SqT.of (h.2.1 _ _ hb)) ?_ ?_
  ·exact ⟨⟨x2, x3, rfl⟩, hs.trans s1, ps, s1 _ _ hl', by simpa [rowF] using hP.same s1, hn⟩
  ·rintro j x p2 σ H2 hxj ⟨⟨y2, y3, rfl⟩, hs2, ps2, hl2, hP2, hn2⟩ hp2
   obtain ⟨z, hzj, rfl⟩ : ∃ z, xs[j]? = some z ∧ V.int z = x := by
    rw [List.getElem?_map] at hxj
    cases e : xs[j]? with
    | none => rw [e] at hxj; cases hxj
    | some z => rw [e] at hxj; exact ⟨z, rfl, Option.some.inj hxj⟩
   have hj6 : j < 6 := Nat.lt_of_lt_of_le (List.getElem?_eq_some_iff.mp hzj).1 hx6
   have s2 : Same H2 (upd H2 p2 (.tup [.int j, .int z])) := same_upd hp2
   refine ⟨p2, _, rfl, SqT.of upd_same, rfl, _, _, rfl, _, _, rfl, rfl, ?_⟩
   refine htt i j (.ref b) z _ _ (iteB (fun e => ?_) fun e => ?_)
   ·refine ⟨_, rfl, _, rfl, (by show 2 ≤ sizeLine; decide), fun q hq => ?_⟩
    have s3 := same_upd (o := .tup [.int i, .int j]) hq
    have hlq : l ≠ q := ne_of_none (s2 _ _ hl2) hq
    refine ⟨_, s3 _ _ (s2 _ _ hl2), small1000 (by rw [List.length_map]; omega), ⟨_, _, rfl⟩, fun b' u e' => ?_, ps2 ++ [q], ?_, ?_, ?_⟩
    ·rw [upd_ne (ne_of_none e' hl)]; exact s3 _ _ (s2 _ _ (hs2 _ _ e'))
    ·rw [upd_same, List.map_append]; rfl
    ·have hne : ∀ b' u, (upd (upd H2 p2 (.tup [.int j, .int z])) q (.tup [.int i, .int j])) b' = some (.tup u) → (upd (upd (upd H2 p2 (.tup [.int j, .int z])) q (.tup [.int i, .int j])) l (.lst (ps2.map V.ref ++ [.ref q]))) b' = some (.tup u) := fun b' u e' => by
      rw [upd_ne (fun z' => ?_)]; exact e'
      rw [z', upd_ne hlq, s2 _ _ hl2] at e'; cases e'
     rw [Grd.rowF_succ f i xs j _ hzj, if_pos e, ← List.append_assoc]
     exact PlAt.snoc (Paired.mapP ((hP2.same s2).same s3) fun _ _ e' => hne _ _ e') (hne _ _ upd_same)
    ·rw [List.length_append]; show ps2.length + 1 ≤ _; omega
   ·refine ⟨⟨_, _, rfl⟩, hs2.trans s2, ps2, s2 _ _ hl2, ?_, by omega⟩
    rw [Grd.rowF_succ f i xs j _ hzj, if_neg (by rw [e]; decide), List.append_nil]
    exact hP2.same s2
  ·rintro σ H2 ⟨⟨y2, y3, rfl⟩, hs2, ps2, hl2, hP2, hn2⟩
   rw [List.length_map] at hP2 hn2
   refine ⟨rfl, hs2, ps2, hl2, ?_, by omega⟩
   rw [List.take_of_length_le (Nat.le_refl _)] at hP2
   rw [Grd.gridF_succ f g i _ hgi]
   exact hP2
 ·rintro σ H' ⟨_, hs, ps, hl', hP, _⟩
  rw [List.length_map, hbs, List.take_of_length_le (Nat.le_refl _)] at hP
  exact hQ σ H' ps hs hl' hP
theorem filt_int : ∀ xs : List Int, ((xs.map V.int).filter nonneg).length = cntR xs
 | [] => rfl
 | x :: xs => by
  have ih := filt_int xs
  unfold cntR at ih ⊢
  rw [List.map_cons]
  cases h : pos x with
  | true => rw [List.filter_cons_of_pos (show nonneg (.int x) = true from h), List.filter_cons_of_pos h, List.length_cons, List.length_cons, ih]
  | false => rw [List.filter_cons_of_neg (by show ¬ nonneg (.int x) = true; rw [show nonneg (.int x) = false from h]; decide), List.filter_cons_of_neg (by rw [h]; decide), ih]
theorem cells_sum {H : Hp} : ∀ {bs : List Addr} {g : Grid}, RowsG H bs g → ((bs.map V.ref).map (cellsIn H)).sum = cntG g
 | _, _, .nil => rfl
 | b :: bs, xs :: g, .cons h t => by
  have ih := cells_sum t
  unfold cntG at ih ⊢
  rw [List.map_cons, List.map_cons, List.sum_cons, List.map_cons, List.sum_cons, ih]
  congr 1
  unfold cellsIn
  rw [tupOf_of h]
  exact filt_int xs
theorem GridAt.good {H : Hp} {a : Addr} {g : Grid} {w : Nat} (hA : GridAt H a g) (G : Good g w) : goodM H (.ref a) = true := by
 obtain ⟨bs, ha, hG⟩ := hA
 have hl : bs.length = g.length := Paired.length hG
 have row : ∀ r ∈ bs.map V.ref, ∃ b xs, r = .ref b ∧ H b = some (.tup (xs.map V.int)) ∧ xs ∈ g := fun r hr => by
  obtain ⟨b, hb, rfl⟩ := List.mem_map.mp hr
  obtain ⟨i, hi, e⟩ := List.getElem_of_mem hb
  obtain ⟨xs, h1, h2⟩ := hG.row (i := i) (b := b) (by rw [List.getElem?_eq_getElem hi, e])
  exact ⟨b, xs, rfl, h2, List.mem_of_getElem? h1⟩
 have len : ∀ r ∈ bs.map V.ref, lenOf H r = w := fun r hr => by
  obtain ⟨b, xs, rfl, h1, h2⟩ := row r hr
  unfold lenOf
  rw [tupOf_of h1]
  show (xs.map V.int).length = w
  rw [List.length_map]; exact G.len xs h2
 unfold goodM
 rw [tupOf_of ha]
 dsimp only
 have c := cells_sum hG
 have h1 := G.h1
 have h4 := G.h4
 rw [List.length_map, hl, decide_eq_true G.h1, decide_eq_true G.h4, c, decide_eq_true G.c1, decide_eq_true G.c10]
 have e1 : (bs.map V.ref).all (rowOk H) = true := List.all_eq_true.mpr fun r hr => by
  obtain ⟨b, xs, rfl, h1, h2⟩ := row r hr
  have w1 := G.w1
  have w5 := G.w5
  have lx := G.len xs h2
  unfold rowOk
  rw [tupOf_of h1]
  dsimp only
  rw [List.length_map, decide_eq_true (show 1 ≤ xs.length by omega), decide_eq_true (show xs.length ≤ 6 by omega)]
  show (true && _) = true
  rw [Bool.true_and, List.all_eq_true]
  intro x hx
  obtain ⟨n, hn, rfl⟩ := List.mem_map.mp hx
  obtain ⟨n1, n2⟩ := G.num xs h2 n hn
  show (decide (-2 ≤ n) && decide (n ≤ 99)) = true
  rw [decide_eq_true n1, decide_eq_true n2]; rfl
 have e2 : (bs.map V.ref).all (fun r => decide (lenOf H r = lenOf H ((bs.map V.ref).headD .non))) = true := List.all_eq_true.mpr fun r hr => by
  match bs, hl, len, hr with
  | b :: bs', _, len, hr => exact decide_eq_true ((len r hr).trans (len _ List.mem_cons_self).symm)
  | [], _, _, hr => cases hr
 rw [e1, e2]
 rfl
theorem GridAt.kn {H : Hp} {a : Addr} {g : Grid} {w : Nat} (hA : GridAt H a g) (G : Good g w) : KnA H (.ref a) := by
 obtain ⟨bs, ha, hG⟩ := hA
 have hl : bs.length = g.length := Paired.length hG
 have h4 := G.h4
 refine KnA.tup ha (by rw [List.length_map]; omega) fun r hr => ?_
 obtain ⟨b, hb, rfl⟩ := List.mem_map.mp hr
 obtain ⟨i, hi, e⟩ := List.getElem_of_mem hb
 obtain ⟨xs, h1, h2⟩ := hG.row (i := i) (b := b) (by rw [List.getElem?_eq_getElem hi, e])
 have lx := G.len xs (List.mem_of_getElem? h1)
 have w5 := G.w5
 refine KnA.tup h2 (by rw [List.length_map]; omega) fun x hx => ?_
 obtain ⟨n, _, rfl⟩ := List.mem_map.mp hx
 exact KnA.int n
end L2
namespace M50
open PySem L2 PyProof.Rows Grd
noncomputable abbrev sPair : Stmt := top 10
noncomputable abbrev sCheck : Stmt := top 20
noncomputable abbrev sIsCell : Stmt := top 23
noncomputable def spGrid (f : Int → Bool) : Sp := fun vs H Q _ => ∃ a g w, vs = [.ref a] ∧ GridAt H a g ∧ Good g w ∧ ∀ H' l ps, H l = none → Same H H' → H' l = some (.lst (ps.map V.ref)) → PlAt H' ps (gridF f g) → Q (.ref l) H'
noncomputable def spCheck : Sp := fun vs H Q _ => ∃ a g w, vs = [.ref a] ∧ GridAt H a g ∧ Good g w ∧ ∀ H', Same H H' → Q .non H'
noncomputable def placeOf (H : Hp) (v : V) : Option (Int × Int) := match tupOf H v with
 | some [.int r, .int c] => some (r, c)
 | _ => none
noncomputable def isCell (H : Hp) (g : Grid) (v : V) : Bool := match placeOf H v with
 | some c => decide (c ∈ gridF pos g)
 | none => false
noncomputable def spIsCell : Sp := fun vs H Q _ => ∃ a g w v, vs = [.ref a, v] ∧ GridAt H a g ∧ Good g w ∧ Kn H 2 v ∧ ∀ H', Same H H' → Q (.bl (isCell H g v)) H'
structure At (P : Program) (w : World) (K : PySem.W.Frag) (mg : Str → Option Value) (base : Heap) (CX : CXT) (k : Nat) (x : Str) (f : Addr) (fd : FuncData) (ps : List Str) (sp : Sp) : Prop where
 nm : mg x = some (.ref f)
 kp : PySem.W.keepIn K (.ref f) = true
 bd : L2.Binds K fd ps []
 ok : FnOk P w K mg base CX k f fd ps sp
section
variable {P : Program} {w : World} {K : PySem.W.Frag} {mg : Str → Option Value} {base : Heap}
theorem ok_placesG {f : Addr} {fd : FuncData} (F : Fun K "places_of_cells" "places_of_cells" sPlaces f fd) (T : Txt mg) : FnOk P w K mg base CX0 1 f fd ["mead"] (spGrid pos) := by
 refine F.ok scPlaces (fun vs H Q E h => ?_) (fun cdv A outer s H vs Q E hr h => ?_)
 ·obtain ⟨a, g, w', rfl, _⟩ := h; rfl
 ·obtain ⟨a, g, w', rfl, ⟨bs, ha, hG⟩, G, q⟩ := h
  refine ⟨_, pss_one (ps_ret (pe_comp2 (defScope sPlaces).names ["mead"] ["at", "row", "k", "mark"] [] rfl (pi_enumT rfl rfl T.enumerate (pa_cons (pv 0) pa_nil)) rfl rfl rfl (by decide +kernel)
   (fun Z => pg_tup rfl (pgs_cons (pg_name (i := 0) nd4 rfl (Or.inl rfl)) (pgs_cons (pg_name (i := 1) nd4 rfl (Or.inl rfl)) pgs_nil))) (fun Z => pts_nil)
   (fun Z => pi_enumT rfl rfl T.enumerate (pa_cons (pv 1) pa_nil)) (fun Z => pg_tup rfl (pgs_cons (pg_name (i := 2) nd4 rfl (Or.inl rfl)) (pgs_cons (pg_name (i := 3) nd4 rfl (Or.inl rfl)) pgs_nil)))
   (fun Z => pts_one (pt_cmpR op_ge (pv 3) pe_int (nomark _))) (fun Z => pe_tup (pa_cons (pv 0) (pa_cons (pv 2) pa_nil))))), ?_⟩
  refine ⟨_, rfl, a, _, rfl, SqT.of ha, fun Z l hl => ?_⟩
  exact comp_grid (f := pos) ha hG hl G.h4 (fun xs hx => by have := G.len xs hx; have := G.w5; omega) (fun at' k r i H' Q' hq => ⟨_, rfl, _, _, rfl, rfl, _, rfl, hq⟩) fun σ H' ps hs hl' hP => q H' l ps hl hs hl' hP
theorem scCheck : FnScope ["mead"] ["mead"] (defScope sCheck) := ⟨rfl, rfl, rfl, by decide +kernel, rfl, by decide +kernel, by decide +kernel⟩
theorem ok_check {f gI : Addr} {fd dI : FuncData} (F : Fun K "check_mead" "check_mead" sCheck f fd) (aI : At P w K mg base CX0 4 "is_mead" gI dI ["thing"] spMead) : FnOk P w K mg base CX0 5 f fd ["mead"] spCheck := by
 refine F.ok scCheck (fun vs H Q E h => ?_) (fun cdv A outer s H vs Q E hr h => ?_)
 ·obtain ⟨a, g, w', rfl, _⟩ := h; rfl
 ·obtain ⟨a, g, w', rfl, hA, G, q⟩ := h
  refine ⟨_, pss_one (ps_if (pt_not (pt_val (pe_call aI.ok hr rfl aI.nm aI.kp aI.bd .nil pass0 (pa_v (pv 0) pa_nil)))) pss_never pss_nil), ?_⟩
  refine ⟨_, rfl, _, rfl, hA.kn G 3, fun H' hs => ⟨_, rfl, ?_⟩⟩
  rw [hA.good G]
  exact iteF (q H' hs)
theorem scPair : FnScope ["thing"] ["thing"] (defScope sPair) := ⟨rfl, rfl, rfl, by decide +kernel, rfl, by decide +kernel, by decide +kernel⟩
noncomputable def spPair : Sp := fun vs H Q _ => ∃ v, vs = [v] ∧ Kn H 2 v ∧ ∀ H', Same H H' → Q (.bl (placeOf H v).isSome) H'
theorem ok_pair {f gT gN : Addr} {fd dT dN : FuncData} (F : Fun K "is_pair_of_numbers" "is_pair_of_numbers" sPair f fd) (T : Txt mg) (aT : At P w K mg base CX0 1 "is_tuple_within" gT dT ["thing", "least", "most"] spTuple) (aN : At P w K mg base CX0 1 "is_number" gN dN ["thing"] spNumber) :
  FnOk P w K mg base CX0 2 f fd ["thing"] spPair := by
 refine F.ok scPair (fun vs H Q E h => ?_) (fun cdv A outer s H vs Q E hr h => ?_)
 ·obtain ⟨v, rfl, _⟩ := h; rfl
 ·obtain ⟨v, rfl, k, q⟩ := h
  refine ⟨_, pss_one (ps_ret (pe_and (pe_call aT.ok hr rfl aT.nm aT.kp aT.bd .nil pass0 (pa_v (pv 0) (pa_c pe_int (pa_c pe_int pa_nil)))) (pe_one (pe_callB (call_all rfl) rfl T.all boot_all (pa_lc (pe_comp1 (defScope sPair).names ["thing"] ["number"] [] rfl (pi_tup (pv 0)) rfl rfl rfl (by decide +kernel)
    (fun Z => pg_name (i := 0) (show (["number"] : List Str).Nodup by decide +kernel) rfl (Or.inl rfl)) (fun Z => pts_nil) (fun Z => pe_call aN.ok hr rfl aN.nm aN.kp aN.bd .nil pass0 (pa_v (pv 0) pa_nil))) pa_nil))))), ?_⟩
  refine ⟨_, rfl, v, 2, 2, rfl, k.le (by decide), _, rfl, iteB (fun e' => ?_) fun e' => ?_⟩
  ·unfold tupIn at e'
   cases z : tupOf H v with
   | none => rw [z] at e'; cases e'
   | some xs =>
    rw [z] at e'
    obtain ⟨p, rfl, hp⟩ := of_tupOf z
    obtain ⟨hz, hk⟩ := k.items hp
    have hlen : xs.length = 2 := by
     simp only [Bool.and_eq_true, decide_eq_true_eq] at e'
     omega
    refine ⟨_, rfl, p, rfl, ⟨xs, SqT.of hp⟩, fun Z l hl => ?_⟩
    refine comp_map (fun x => .bl (isInt x)) hp hl hz (fun x H' Q' hm hs hq => ?_) fun σ H1 s1 hl1 => ?_
    ·exact ⟨_, rfl, x, rfl, (hk x hm).ext hs.ext, hq _ (Same.refl _)⟩
    ·refine ⟨l, xs.map isInt, rfl, SqL.of (by rw [hl1, List.map_map]; rfl), ?_⟩
     have : (placeOf H (.ref p)).isSome = (xs.map L2.isInt).all id := by
      unfold placeOf
      rw [z]
      match xs, hlen with
      | [x, y], _ => cases x <;> cases y <;> rfl
     have q' := q H1 s1
     rw [this] at q'; exact q'
  ·have : (placeOf H v).isSome = false := by
    unfold tupIn at e'; unfold placeOf
    cases z : tupOf H v with
    | none => rfl
    | some xs =>
     rw [z] at e'
     match xs, e' with
     | [x, y], e' => simp at e'
     | [], _ => rfl
     | [x], _ => cases x <;> rfl
     | x :: y :: u :: t, _ => cases x <;> cases y <;> rfl
   have q' := q H (Same.refl H)
   rw [this] at q'; exact q'
theorem scIsCell : FnScope ["mead", "thing"] ["mead", "thing"] (defScope sIsCell) := ⟨rfl, rfl, rfl, by decide +kernel, rfl, by decide +kernel, by decide +kernel⟩
theorem ok_isCell {f gT gP : Addr} {fd dT dP : FuncData} (F : Fun K "is_cell" "is_cell" sIsCell f fd) (aT : At P w K mg base CX0 2 "is_pair_of_numbers" gT dT ["thing"] spPair)
  (aP : At P w K mg base CX0 1 "places_of_cells" gP dP ["mead"] (spGrid pos)) : FnOk P w K mg base CX0 3 f fd ["mead", "thing"] spIsCell := by
 refine F.ok scIsCell (fun vs H Q E h => ?_) (fun cdv A outer s H vs Q E hr h => ?_)
 ·obtain ⟨a, g, w', v, rfl, _⟩ := h; rfl
 ·obtain ⟨a, g, w', v, rfl, hA, G, k, q⟩ := h
  refine ⟨_, pss_one (ps_ret (pe_and (pe_call aT.ok hr rfl aT.nm aT.kp aT.bd .nil pass0 (pa_v (pv 1) pa_nil)) (pe_one (pe_cmpR (op_inP (hu_of hr)) (pv 1) (pe_call aP.ok (hr.mono (by decide)) rfl aP.nm aP.kp aP.bd .nil pass0 (pa_v (pv 0) pa_nil)) rfl)))), ?_⟩
  refine ⟨_, rfl, v, rfl, k, fun H1 s1 => ⟨_, rfl, iteB (fun e => ?_) fun e => ?_⟩⟩
  ·obtain ⟨⟨r, c⟩, z⟩ := Option.isSome_iff_exists.mp e
   have zt : tupOf H v = some [.int r, .int c] := by
    unfold placeOf at z
    split at z
    ·rename_i r2 c2 hz
     injection z with z; injection z with z1 z2
     subst z1 z2; exact hz
    ·cases z
   obtain ⟨p, rfl, hp⟩ := of_tupOf zt
   refine ⟨_, rfl, _, rfl, a, g, w', rfl, hA.same s1, G, fun H2 l2 ps hl2 s2 hl2' hP => ?_⟩
   refine ⟨p, l2, ps, gridF pos g, (r, c), rfl, rfl, s2 _ _ (s1 _ _ hp), hl2', hP, ?_⟩
   have : isCell H g (.ref p) = decide ((r, c) ∈ gridF pos g) := by unfold isCell; rw [z]
   have q' := q H2 (s1.trans s2)
   rw [this] at q'; exact q'
  ·have : isCell H g v = false := by
    unfold isCell
    cases z : placeOf H v with
    | none => rfl
    | some c => rw [z] at e; cases e
   have q' := q H1 s1
   rw [this] at q'; exact q'
end
end M50
namespace M50
open PySem L2 PyProof.Rows Grd
noncomputable abbrev sLCells : Stmt := top 58
section
variable {P : Program} {w : World} {K : PySem.W.Frag} {mg : Str → Option Value} {base : Heap}
noncomputable abbrev nLC : List Str := ["_law_mead_here", "_law_found", "_law_row", "_law_numbers"]
theorem scLC : FnScope nLC ["_law_mead_here"] (defScope sLCells) := ⟨rfl, rfl, rfl, by decide +kernel, rfl, by decide +kernel, by decide +kernel⟩
theorem ndCN : (["_law_column", "_law_number", "_law_row"] : List Str).Nodup := by decide +kernel
theorem ok_lcells {f : Addr} {fd : FuncData} (F : Fun K "_law_cells" "_law_cells" sLCells f fd) (T : Txt mg) : FnOk P w K mg base CX0 1 f fd ["_law_mead_here"] (spGrid pos) := by
 refine F.ok scLC (fun vs H Q E h => ?_) (fun cdv A outer s H vs Q E hr h => ?_)
 ·obtain ⟨a, g, w', rfl, _⟩ := h; rfl
 ·obtain ⟨a, g, w', rfl, ⟨bs, ha, hG⟩, G, q⟩ := h
  have nd := scLC.nd
  refine ⟨_, pss_cons (ps_set (i := 1) nd rfl (Or.inl rfl) (pe_lst pa_nil)) <|
   pss_cons (ps_for PassesOwn.never rfl (pi_enumT rfl rfl T.enumerate (pa_v (pv 0) pa_nil)) (pg_tup rfl (pgs_cons (pg_name (i := 2) nd rfl (Or.inr rfl)) (pgs_cons (pg_name (i := 3) nd rfl (Or.inl rfl)) pgs_nil)))
    (pss_one (ps_expr (pe_bm PySem.F.plainAttrs_list PySem.F.slot_list_extend PySem.F.type_list_extend mt_extend (pv 1) (pa_lc (pe_comp1 (defScope sLCells).names nLC ["_law_column", "_law_number"] [("_law_row", 2)] rfl (pi_enumT rfl rfl T.enumerate (pa_v (pv 3) pa_nil)) rfl rfl rfl (by decide +kernel)
     (fun Z => pg_tup rfl (pgs_cons (pg_name (i := 0) ndCN rfl (Or.inl rfl)) (pgs_cons (pg_name (i := 1) ndCN rfl (Or.inl rfl)) pgs_nil))) (fun Z => pts_one (pt_cmpR op_ge (pv 1) pe_int (nomark _))) (fun Z => pe_tup (pa_v (pv 2) (pa_v (pv 0) pa_nil)))) pa_nil))))) <|
   pss_one (ps_ret (pv 1)), ?_⟩
  refine ⟨by show 0 ≤ sizeLine; decide, fun l hl => ?_⟩
  have s0 := same_upd (o := .lst []) hl
  have hbs : bs.length = g.length := Paired.length hG
  refine ⟨_, rfl, a, _, rfl, SqT.of (s0 _ _ ha), ?_⟩
  refine for_enum (xs := bs.map V.ref) (fun i σ H' => (∃ o2 o3, σ = [some (.ref a), some (.ref l), o2, o3]) ∧ Same H H' ∧ ∃ ps, H' l = some (.lst (ps.map V.ref)) ∧ PlAt H' ps (gridF pos (g.take i)) ∧ ps.length ≤ 6 * i) ⟨⟨_, _, rfl⟩, s0, [], by rw [upd_same]; rfl, .nil, Nat.zero_le _⟩ (fun i σ H' _ h => SqT.of (h.2.1 _ _ ha)) ?_ ?_
  ·rintro i r p σ H' hx ⟨⟨o2, o3, rfl⟩, hs, ps, hl', hP, hn⟩ hp
   obtain ⟨b, hbi, rfl⟩ : ∃ b, bs[i]? = some b ∧ V.ref b = r := by
    rw [List.getElem?_map] at hx
    cases e : bs[i]? with
    | none => rw [e] at hx; cases hx
    | some b => rw [e] at hx; exact ⟨b, rfl, Option.some.inj hx⟩
   obtain ⟨xs, hgi, hb⟩ := hG.row hbi
   have hx5 : xs.length ≤ 5 := by have := G.len xs (List.mem_of_getElem? hgi); have := G.w5; omega
   have h4 := G.h4
   have hi4 : i < 4 := Nat.lt_of_lt_of_le (List.getElem?_eq_some_iff.mp hgi).1 h4
   have s1 : Same H' (upd H' p (.tup [.int i, .ref b])) := same_upd hp
   refine ⟨p, _, rfl, SqT.of upd_same, rfl, _, _, rfl, _, _, rfl, rfl, ?_⟩
   refine ⟨_, rfl, .inl ⟨rfl, _, SqL.of (s1 _ _ hl')⟩, _, rfl, b, xs.map V.int, rfl, SqT.of (s1 _ _ (hs _ _ hb)), fun Z l2 hl2 => ?_⟩
   have sA := hs.trans s1
   refine for_enum (xs := xs.map V.int) (fun j σ H2 => (∃ y1 y2, σ = [y1, y2, some (.int i)]) ∧ Same (upd H' p (.tup [.int i, .ref b])) H2 ∧ ∃ zs, H2 l2 = some (.lst (zs.map V.ref)) ∧ PlAt H2 zs (rowF pos i (xs.take j)) ∧ zs.length ≤ j) ⟨⟨_, _, rfl⟩, same_upd hl2, [], by rw [upd_same]; rfl, .nil, Nat.zero_le _⟩ (fun j σ H2 _ h => SqT.of (h.2.1 _ _ (sA _ _ hb))) ?_ ?_
   ·rintro j x p2 σ H2 hxj ⟨⟨y1, y2, rfl⟩, hs2, zs, hl2', hP2, hn2⟩ hp2
    obtain ⟨z, hzj, rfl⟩ : ∃ z, xs[j]? = some z ∧ V.int z = x := by
     rw [List.getElem?_map] at hxj
     cases e : xs[j]? with
     | none => rw [e] at hxj; cases hxj
     | some z => rw [e] at hxj; exact ⟨z, rfl, Option.some.inj hxj⟩
    have hj : j < 5 := Nat.lt_of_lt_of_le (List.getElem?_eq_some_iff.mp hzj).1 hx5
    have s2 : Same H2 (upd H2 p2 (.tup [.int j, .int z])) := same_upd hp2
    refine ⟨p2, _, rfl, SqT.of upd_same, rfl, _, _, rfl, _, _, rfl, rfl, ?_⟩
    refine ⟨_, rfl, _, _, rfl, rfl, _, rfl, iteB (fun e => ?_) fun e => ?_⟩
    ·refine ⟨_, rfl, _, rfl, (by show 2 ≤ sizeLine; decide), fun q3 hq3 => ?_⟩
     have s3 := same_upd (o := .tup [.int i, .int j]) hq3
     have hlq : l2 ≠ q3 := ne_of_none (s2 _ _ hl2') hq3
     refine ⟨_, s3 _ _ (s2 _ _ hl2'), small1000 (by rw [List.length_map]; omega), ⟨_, _, rfl⟩, fun b' u e' => ?_, zs ++ [q3], ?_, ?_, ?_⟩
     ·rw [upd_ne (ne_of_none e' hl2)]; exact s3 _ _ (s2 _ _ (hs2 _ _ e'))
     ·rw [upd_same, List.map_append]; rfl
     ·have hne : ∀ b' u, (upd (upd H2 p2 (.tup [.int j, .int z])) q3 (.tup [.int i, .int j])) b' = some (.tup u) → (upd (upd (upd H2 p2 (.tup [.int j, .int z])) q3 (.tup [.int i, .int j])) l2 (.lst (zs.map V.ref ++ [.ref q3]))) b' = some (.tup u) := fun b' u e' => by
       rw [upd_ne (fun z' => ?_)]; exact e'
       rw [z', upd_ne hlq, s2 _ _ hl2'] at e'; cases e'
      rw [Grd.rowF_succ pos i xs j _ hzj, if_pos (show pos z = true from e)]
      exact PlAt.snoc (Paired.mapP ((hP2.same s2).same s3) fun _ _ e' => hne _ _ e') (hne _ _ upd_same)
     ·rw [List.length_append]; show zs.length + 1 ≤ _; omega
    ·refine ⟨⟨_, _, rfl⟩, hs2.trans s2, zs, s2 _ _ hl2', ?_, by omega⟩
     rw [Grd.rowF_succ pos i xs j _ hzj, if_neg (by rw [show pos z = false from e]; decide), List.append_nil]
     exact hP2.same s2
   ·rintro σ H2 ⟨⟨y1, y2, rfl⟩, hs2, zs, hl2', hP2, hn2⟩
    rw [List.length_map] at hP2 hn2
    rw [List.take_of_length_le (Nat.le_refl _)] at hP2
    have hlH2 := hs2 _ _ (s1 _ _ hl')
    have hll : l2 ≠ l := fun z => by rw [z, s1 _ _ hl'] at hl2; cases hl2
    refine ⟨l, l2, _, _, rfl, rfl, hlH2, hl2', by rw [List.length_map, List.length_map, sizeLine_eq]; omega, ?_⟩
    have keepT : ∀ b' u, H2 b' = some (.tup u) → (upd H2 l (.lst (ps.map V.ref ++ zs.map V.ref))) b' = some (.tup u) := fun b' u e' => by
     rw [upd_ne (fun z' => ?_)]; exact e'
     rw [z', hlH2] at e'; cases e'
    refine ⟨⟨_, _, rfl⟩, fun b' u e' => ?_, ps ++ zs, by rw [upd_same, List.map_append], ?_, by rw [List.length_append]; omega⟩
    ·rw [upd_ne (ne_of_none e' hl)]; exact hs2 _ _ (s1 _ _ (hs _ _ e'))
    ·rw [Grd.gridF_succ pos g i _ hgi]
     have app : ∀ {as bs : List Addr} {cs ds : List (Int × Int)}, PlAt (upd H2 l (.lst (ps.map V.ref ++ zs.map V.ref))) as cs → PlAt (upd H2 l (.lst (ps.map V.ref ++ zs.map V.ref))) bs ds → PlAt (upd H2 l (.lst (ps.map V.ref ++ zs.map V.ref))) (as ++ bs) (cs ++ ds) := by
      intro as bs cs ds h1 h2
      induction h1 with
      | nil => exact h2
      | cons r t ih => exact .cons r ih
     exact app (Paired.mapP ((hP.same s1).same hs2) fun _ _ e' => keepT _ _ e') (Paired.mapP hP2 fun _ _ e' => keepT _ _ e')
  ·rintro σ H' ⟨⟨o2, o3, rfl⟩, hs, ps, hl', hP, _⟩
   rw [List.length_map, hbs, List.take_of_length_le (Nat.le_refl _)] at hP
   exact ⟨_, rfl, q H' l ps hl hs hl' hP⟩
end
end M50
namespace PySem
section
variable {prog : Program} {w : World} {A : Around} {E : Value → Shared → Prop} {s : Shared}
theorem zipD_end2 {z TI TO i1 i2 : Addr} {f1 f2 : List Addr} {n1 n2 : Nat} {P1 P2 : Nat → Value → Prop} {S1 S2 : Nat → Heap → Prop} {a b : Value} {Q : Fin → Shared → Prop} (D1 : Draws prog w A i1 f1 n1 P1 S1) (D2 : Draws prog w A i2 f2 n2 P2 S2) (D : ZipFar z TI TO i1 i2 f1 f2)
  (hz : IsZip s.heap z TI TO .none) (hTI : IsPair s.heap TI (.ref i1) (.ref i2)) (hTO : IsPair s.heap TO a b) (t1 : S1 n2 s.heap) (t2 : S2 n2 s.heap) (hk1 : n2 < n1)
  (hE : ∀ h' e tk, (∀ c o, c ≠ z → c ≠ TO → c ≠ i1 → c ≠ i2 → s.heap.get? c = some o → h'.get? c = some o) → (∃ o, h'.get? e = some o ∧ o.cls = .type "StopIteration") → E (.ref e) { s with heap := h', toks := tk }) :
  wpAny (model prog w) A (Builtin.«zip.__next__» ⟨[.ref z], []⟩) Q E s := by
 show wpAny _ _ (field (.ref z) 2 >>= _) _ _ _; refine wpAny_bind (wpAny_field hz rfl (x := .bool false) rfl ?_); show wpAny _ _ (field (.ref z) 3 >>= _) _ _ _
 refine wpAny_bind (wpAny_field hz rfl (x := .ref TI) rfl (wpAny_bind (wpAny_seqItems hTI rfl ?_)))
 show wpAny _ _ (Builtin.SmallTypes.ownedTupleIsFree (.ref z) >>= _) _ _ _; refine wpAny_bind ?_; unfold Builtin.SmallTypes.ownedTupleIsFree
 refine wpAny_bind (wpAny_field hz rfl (x := .none) rfl (wpAny_pure ?_)); simp only [if_true]
 refine wpAny_bind (wpAny_rule (wpAny_bind (wpAny_field hz rfl (x := .ref TO) rfl (wpAny_bind (wpAny_setField_rec hz (by simp) fun h₁ hz₁ hs₁ => ?_)))))
 replace hz₁ : IsZip h₁ z TI TO .ellipsis := hz₁
 refine wpAny_bind ?_; simp only [List.zipIdx_cons, List.zipIdx_nil, List.forIn_cons, List.forIn_nil]
 refine wpAny_bind (wpAny_bind (wpAny_onRaise ?_)); show wpAny _ _ (Builtin.SmallTypes.nextOf (.ref i1) >>= _) _ _ _
 have u1 : S1 n2 h₁ := D1.frame n2 _ _ t1 fun c hc o e => hs₁.extBut _ _ (fun q => D.z1 (q ▸ hc)) e
 refine wpAny_bind (D1.item n2 _ _ _ hk1 u1 fun x h₂ tk₂ hx v1 hs₂ => wpAny_pure ?_)
 have hTO₂ : IsPair h₂ TO a b := hs₂.extBut _ _ D.O1 (hs₁.extBut _ _ D.Oz hTO)
 refine wpAny_bind (wpAny_seqItems hTO₂ rfl (wpAny_bind (wpAny_updateSeq_pair hTO₂ fun h₃ hTO₃ hs₃ => ?_)))
 refine wpAny_bind (wpAny_letGo (wpAny_pure ?_)); refine wpAny_bind (wpAny_bind (wpAny_onRaise ?_)); show wpAny _ _ (Builtin.SmallTypes.nextOf (.ref i2) >>= _) _ _ _
 have u2 : S2 n2 h₃ := D2.frame n2 _ _ t2 fun c hc o e => hs₃.extBut _ _ (fun q => D.o2 (q ▸ hc)) (hs₂.extBut _ _ (fun q => D.c1 (q ▸ hc)) (hs₁.extBut _ _ (fun q => D.z2 (q ▸ hc)) e))
 refine wpAny_bind (D2.done _ _ _ u2 fun h₄ e hs₄ he => ?_)
 obtain ⟨oe, hoe, hce⟩ := he
 have hz₄ : IsZip h₄ z TI TO .ellipsis := hs₄ _ _ D.jz.symm (hs₃.extBut _ _ D.Oz.symm (hs₂.extBut _ _ D.iz.symm hz₁))
 have hez : e ≠ z := fun x => by subst x; rw [hz₄] at hoe; cases hoe; simp at hce
 refine wpAny_setField_rec hz₄ (by simp) fun h₅ _ hs₅ => hE h₅ e _ (fun c o c1 c2 c3 c4 x => hs₅.extBut _ _ c1 (hs₄ _ _ c4 (hs₃.extBut _ _ c2 (hs₂.extBut _ _ c3 (hs₁.extBut _ _ c1 x))))) ⟨oe, hs₅.extBut _ _ hez hoe, hce⟩
theorem nextZ_end2 {z TI TO i1 i2 : Addr} {f1 f2 : List Addr} {n1 n2 : Nat} {P1 P2 : Nat → Value → Prop} {S1 S2 : Nat → Heap → Prop} {a b : Value} {Q : Option Value → Shared → Prop} (D1 : Draws prog w A.in1 i1 f1 n1 P1 S1) (D2 : Draws prog w A.in1 i2 f2 n2 P2 S2) (D : ZipFar z TI TO i1 i2 f1 f2)
  (hz : IsZip s.heap z TI TO .none) (hTI : IsPair s.heap TI (.ref i1) (.ref i2)) (hTO : IsPair s.heap TO a b) (t1 : S1 n2 s.heap) (t2 : S2 n2 s.heap) (hk1 : n2 < n1)
  (hQ : ∀ h' tk, (∀ c o, c ≠ z → c ≠ TO → c ≠ i1 → c ≠ i2 → s.heap.get? c = some o → h'.get? c = some o) → Q none { s with heap := h', toks := tk }) : wpAny (model prog w) A (pyNext (.ref z)) Q E s := by
 have hT : s.TypeIs (.ref z) "zip" := ⟨_, hz, rfl⟩
 unfold pyNext
 refine wpAny_bind (wpAny_attempt (wpAny_callSpecial?_slot (name := Str.ofString "__next__") hT F.slot_zip_next (wpAny_call_entry F.slot_zip_next hT F.entry_zip_next (zipD_end2 D1 D2 D hz hTI hTO t1 t2 hk1 fun h' e tk hk he => ?_) (F.args_zip_next_1 _))))
 obtain ⟨o, ho, hc⟩ := he
 exact wpAny_bind (wpAny_isInstance (T := "StopIteration") (b := true) ⟨o, ho, hc⟩ isSubtype_stop (wpAny_pure (hQ _ _ hk)))
end
end PySem
namespace L2
open PySem PySem.Spec PyProof.Rows
noncomputable def Itz2 (S1 S2 : Hp → List V → Prop) : It := ⟨(Itz S1 S2).go, (Itz S1 S2).yld, fun i H => ∃ xs ys, S1 H xs ∧ S2 H ys ∧ ys.length = i ∧ i < xs.length⟩
theorem turn_zip2 {P : Program} {w : World} {K : PySem.W.Frag} {es : List Expr} {x1} {pos : Pos} {k : SeqK} (ok : k.Ok) (z TI TO i1 i2 a b : Addr) (D : ZipFar z TI TO i1 i2 [i1, a] [i2, b]) (ha : a ≠ i1) (hb : b ≠ i2) :
  Turn P w K (.Tuple es x1 pos) (Itz2 (fun H xs => k.Sq K H a xs) fun H ys => k.Sq K H b ys) [z, TI, TO, i1, i2] z (fun i h => IsZip h z TI TO .none ∧ IsPair h TI (.ref i1) (.ref i2) ∧ (∃ u v, IsPair h TO u v) ∧ k.iit h i1 a i ∧ k.iit h i2 b i) where
 mem := by simp
 obj := (turn_zip (P := P) (w := w) (K := K) (es := es) (x1 := x1) (pos := pos) ok z TI TO i1 i2 a b D ha hb).obj
 keep := (turn_zip (P := P) (w := w) (K := K) (es := es) (x1 := x1) (pos := pos) ok z TI TO i1 i2 a b D ha hb).keep
 item := (turn_zip (P := P) (w := w) (K := K) (es := es) (x1 := x1) (pos := pos) ok z TI TO i1 i2 a b D ha hb).item
 done := by
  intro X hP hw hK hc i pins s σ H E I hf st hg
  subst hP hw hK
  obtain ⟨hz, hTI, ⟨u, v, hTO⟩, h1, h2⟩ := st
  obtain ⟨xs, ys, q1, q2, hy, hx⟩ := hg
  obtain ⟨its, rv, p1⟩ := ok.get I q1
  obtain ⟨jts, rw', p2⟩ := ok.get I q2
  have hl := rv.length
  have hl2 := rw'.length
  have hi2 : jts.toArray.size = i := by rw [List.size_toArray, ← hl2, hy]
  have hi1 : i < its.toArray.size := by rw [List.size_toArray, ← hl]; exact hx
  have hh : X.A.in1.handled = none := by simp [I.ok.hd hc]
  refine nextZ_end2 (ok.dr hh i1 a ha its.toArray) (ok.dr hh i2 b hb jts.toArray) D hz hTI hTO (by rw [hi2]; exact ⟨h1, p1⟩) (by rw [hi2]; exact ⟨h2, p2⟩) (by rw [hi2]; exact hi1) fun h' tk hk => ⟨rfl, ?_⟩
  exact I.turnedL (fp := [z, TI, TO, i1, i2]) (t' := tk) (fun c o hc' q => hk c o (fun e => hc' (by simp [e])) (fun e => hc' (by simp [e])) (fun e => hc' (by simp [e])) (fun e => hc' (by simp [e])) q) hf
 self := (turn_zip (P := P) (w := w) (K := K) (es := es) (x1 := x1) (pos := pos) ok z TI TO i1 i2 a b D ha hb).self
noncomputable def iZip2 (k : SeqK) (K : PySem.W.Frag) (ta : TA) : TI := fun σ H R => ta σ H fun vs H1 => ∃ a b xs ys, vs = [.ref a, .ref b] ∧ k.Sq K H1 a xs ∧ k.Sq K H1 b ys ∧ R (Itz2 (fun H xs => k.Sq K H a xs) fun H ys => k.Sq K H b ys) H1
section
variable {X : Cx}
theorem pi_zip2 {a b : Expr} {ta : TA} {p pos : Pos} {es : List Expr} {x1} {tpos : Pos} {k : SeqK} (ok : k.Ok) (hg : Gl X "zip") (hm : X.mg "zip" = none) (ha : PA X [a, b] ta) (hs : starEach [a, b] X.env = [(false, eval a X.env), (false, eval b X.env)] := by rfl) (hs2 : starEach [b] X.env = [(false, eval b X.env)] := by rfl) :
  PI X (.Tuple es x1 tpos) (.Call (.Name "zip" p) [a, b] [] pos) (iZip2 k X.K ta) := by
 intro pins s σ H R I h
 refine Call_ (ld_blt I hg hm boot_zip (PyProof.Rows.callWith_type1 (thn (ha pos pins s σ H _ I h) fun us s1 ⟨vs, H1, I1, r1, q1⟩ => ?_) (by rw [hs, hs2]) (by rw [hs2]; rfl)))
 obtain ⟨a', b', xs, ys, e, q1, q2, q⟩ := q1
 subst e
 obtain ⟨u, v, rfl, rx, ry⟩ := vals2 r1
 cases rx
 cases ry
 obtain ⟨its, rv, p1⟩ := ok.get I1 q1
 obtain ⟨jts, rw', p2⟩ := ok.get I1 q2
 have l1 := ok.lt p1
 have l2 := ok.lt p2
 refine ok.zip p1 p2 fun h' a1 a2 a3 a4 a5 a7 => ?_
 refine wpAny_pyIter_zip (s := { s1 with heap := h' }) a1 ?_
 have I2 : Inv X pins σ H1 { s1 with heap := h' } := I1.kept (t' := s1.toks) a7
 have far := zipFar_new s1.heap.objs.size a' b' l1 l2
 refine ⟨s1.heap.objs.size + 4, [s1.heap.objs.size + 4, s1.heap.objs.size + 2, s1.heap.objs.size + 3, s1.heap.objs.size, s1.heap.objs.size + 1], _, _, H1, rfl, I2, turn_zip2 ok _ _ _ _ _ a' b' far (Nat.ne_of_lt l1) (Nat.ne_of_lt (Nat.lt_succ_of_lt l2)), ⟨a1, a2, ⟨_, _, a3⟩, a4, a5⟩, fun c hc' => ?_, q⟩
 have hge : s1.heap.objs.size ≤ c := by
  simp only [List.mem_cons, List.not_mem_nil, or_false] at hc'
  rcases hc' with rfl | rfl | rfl | rfl | rfl
  ·exact Nat.le_add_right _ 4
  ·exact Nat.le_add_right _ 2
  ·exact Nat.le_add_right _ 3
  ·exact Nat.le_refl _
  ·exact Nat.le_succ _
 exact I1.fpOk hge (I1.hok.fresh hge)
theorem for_zip2 {S1 S2 : Hp → List V → Prop} {xs ys : List V} {g : TG} {tb : TS} {D : Ends} {σ : St} {H : Hp} (hlen : ys.length < xs.length) (Pv : Nat → St → Hp → Prop) (h0 : Pv 0 σ H) (hl : ∀ i σ H, Pv i σ H → S1 H xs ∧ S2 H ys)
  (hs : ∀ i x y p σ H, xs[i]? = some x → ys[i]? = some y → Pv i σ H → H p = none → g (.ref p) σ (upd H p (.tup [x, y])) fun σ2 H2 => tb { D with nx := Pv (i + 1), ct := Pv (i + 1), bk := D.nx } σ2 H2) (hd : ∀ σ H, Pv ys.length σ H → D.nx σ H) :
  tForJ (Itz2 S1 S2) g tb D σ H := by
 refine ⟨fun i m σ H => m = ys.length - i ∧ i ≤ ys.length ∧ Pv i σ H, ⟨ys.length, by simp, Nat.zero_le _, h0⟩, ?_⟩
 rintro i m σ H ⟨rfl, hi, p⟩
 obtain ⟨q1, q2⟩ := hl i σ H p
 by_cases hlt2 : i < ys.length
 ·have hlt : i < xs.length := by omega
  refine .inr ⟨⟨xs, ys, xs[i], ys[i], q1, q2, by simp [hlt], by simp [hlt2]⟩, Pv (i + 1), fun σ' H' p' => ⟨ys.length - (i + 1), by omega, rfl, hlt2, p'⟩, fun x H' y => ?_⟩
  obtain ⟨pp, a, b, e1, e2, e3, e4, e5⟩ := y
  subst e1 e3
  exact hs i a b pp σ H (e4 xs q1) (e5 ys q2) p e2
 ·have e : i = ys.length := by omega
  subst e
  exact .inl ⟨⟨xs, ys, q1, q2, rfl, hlen⟩, hd σ H p⟩
end
end L2
namespace Srt
open PySem PySem.W PyProof.Rows
section
variable {cmp : Nat → Nat → (Bool → Shared → Prop) → Shared → Prop} {n : Nat} {r : Nat → Int} {s : Shared}
noncomputable def Asks (cmp : Nat → Nat → (Bool → Shared → Prop) → Shared → Prop) (n : Nat) (r : Nat → Int) (s : Shared) : Prop := ∀ i j (C : Bool → Shared → Prop), i < n → j < n → C (decide (r i < r j)) s → cmp i j C s
noncomputable def at' (p : Array Nat) (k : Nat) : Nat := p.getD k 0
noncomputable def Pm (n : Nat) (p : Array Nat) : Prop := p.Perm (List.range n).toArray
theorem Pm.size {p : Array Nat} (h : Pm n p) : p.size = n := by rw [Array.Perm.size_eq h]; simp
theorem Pm.lt {p : Array Nat} (h : Pm n p) (k : Nat) (hn : 0 < n) : at' p k < n := by
 unfold at'
 by_cases hk : k < p.size
 ·have e : p.getD k 0 = p[k] := by simp [Array.getD, hk]
  rw [e]
  have h1 : p[k] ∈ p.toList := by simp
  have h2 := (Array.perm_iff_toList_perm.mp h).mem_iff.mp h1
  simpa using h2
 ·have e : p.getD k 0 = 0 := by simp [Array.getD, hk]
  rw [e]; exact hn
noncomputable def R (r : Nat → Int) (p : Array Nat) (k : Nat) : Int := r (at' p k)
noncomputable def Up (r : Nat → Int) (p : Array Nat) (k : Nat) : Prop := ∀ i j, i ≤ j → j < k → R r p i ≤ R r p j
noncomputable def Dn (r : Nat → Int) (p : Array Nat) (k : Nat) : Prop := ∀ i j, i ≤ j → j < k → R r p j ≤ R r p i
theorem up_succ {p : Array Nat} {k : Nat} (h : Up r p k) (h1 : R r p (k - 1) ≤ R r p k) : Up r p (k + 1) := by
 intro i j hij hj
 by_cases e : j < k
 ·exact h i j hij e
 ·have : j = k := by omega
  subst this
  by_cases e2 : i = j
  ·subst e2; exact Int.le_refl _
  ·exact Int.le_trans (h i (j - 1) (by omega) (by omega)) h1
theorem dn_succ {p : Array Nat} {k : Nat} (h : Dn r p k) (h1 : R r p k ≤ R r p (k - 1)) : Dn r p (k + 1) := by
 intro i j hij hj
 by_cases e : j < k
 ·exact h i j hij e
 ·have : j = k := by omega
  subst this
  by_cases e2 : i = j
  ·subst e2; exact Int.le_refl _
  ·exact Int.le_trans h1 (h i (j - 1) (by omega) (by omega))
theorem at_rev {p : Array Nat} {i j : Nat} (hj : j ≤ p.size) (k : Nat) : at' (kas_rev p i j) k = if i ≤ k ∧ k < j then at' p (i + j - 1 - k) else at' p k := by
 have e := getElem?_mirror_all (xs := p) (i := i) hj k
 have g : ∀ (xs : Array Nat) (k : Nat), at' xs k = (xs[k]?).getD 0 := fun xs k => by unfold at'; simp [Array.getD]; split <;> simp [*]
 rw [g, g, g]
 show (mirror p i j ((j - i) / 2))[k]?.getD 0 = _
 rw [e]
 split <;> rfl
theorem R_rev {p : Array Nat} {i j : Nat} (hj : j ≤ p.size) (k : Nat) : R r (kas_rev p i j) k = if i ≤ k ∧ k < j then R r p (i + j - 1 - k) else R r p k := by
 unfold R; rw [at_rev hj]; split <;> rfl
theorem R_rev_eq {p : Array Nat} {i j : Nat} (hj : j ≤ p.size) (h : ∀ k, i ≤ k → k < j → R r p k = R r p (j - 1)) (k : Nat) : R r (kas_rev p i j) k = R r p k := by
 rw [R_rev hj]
 split
 ·rw [h _ (by omega) (by omega), h k (by omega) (by omega)]
 ·rfl
theorem Pm.rev {p : Array Nat} (h : Pm n p) (i j : Nat) : Pm n (kas_rev p i j) := Array.Perm.trans (mirror_perm _ _ _ _) h
theorem Pm.bub {p : Array Nat} (h : Pm n p) (k d : Nat) : Pm n (bubble p k d) := Array.Perm.trans (bubble_perm _ _ _) h
theorem R_bub {p : Array Nat} {src d : Nat} (hs : src < p.size) (hd : d ≤ src) (k : Nat) : R r (bubble p src d) k = if k = src - d then R r p src else if src - d < k ∧ k ≤ src then R r p (k - 1) else R r p k := by
 have e := getElem?_bubble (xs := p) hs d hd k
 have g : ∀ (xs : Array Nat) (k : Nat), at' xs k = (xs[k]?).getD 0 := fun xs k => by unfold at'; simp [Array.getD]; split <;> simp [*]
 unfold R
 rw [g, e]
 split
 ·rw [g]
 ·split <;> rw [g]
theorem asc_ok (ha : Asks cmp n r s) (hn : 0 < n) {p : Array Nat} (hp : Pm n p) : ∀ (f k : Nat) (Q : Nat → Shared → Prop), 1 ≤ k → Up r p k → (∀ m, k ≤ m → m ≤ k + f → Up r p m → (m = k + f ∨ R r p m < R r p (m - 1)) → Q m s) → (kas_asc p f k).kasWp cmp Q s
 | 0, k, Q, h1, hu, h => h k (Nat.le_refl _) (Nat.le_refl _) hu (.inl rfl)
 | f + 1, k, Q, h1, hu, h => by
  show cmp (at' p k) (at' p (k - 1)) (fun b s' => (if b = true then KasT.ret k else kas_asc p f (k + 1)).kasWp cmp Q s') s
  refine ha _ _ _ (hp.lt _ hn) (hp.lt _ hn) ?_
  by_cases c : r (at' p k) < r (at' p (k - 1))
  ·rw [decide_eq_true c]
   exact h k (Nat.le_refl _) (by omega) hu (.inr c)
  ·rw [decide_eq_false c]
   refine asc_ok ha hn hp f (k + 1) Q (by omega) (up_succ hu (Int.not_lt.mp c)) fun m a b u e => h m (by omega) (by omega) u ?_
   rcases e with e | e
   ·left; omega
   ·exact .inr e
theorem desc_ok (ha : Asks cmp n r s) (hn : 0 < n) : ∀ (f k q : Nat) (p : Array Nat) (Q : Array Nat × Nat × Nat → Shared → Prop), Pm n p → 1 ≤ k → k + f ≤ n → Dn r p k → q + 1 ≤ k → (∀ i, k - (q + 1) ≤ i → i < k → R r p i = R r p (k - 1)) →
  (∀ p' m q', Pm n p' → k ≤ m → m ≤ k + f → Dn r p' m → q' + 1 ≤ m → (∀ i, m - (q' + 1) ≤ i → i < m → R r p' i = R r p' (m - 1)) → Q (p', m, q') s) → (kas_desc f p k q).kasWp cmp Q s
 | 0, k, q, p, Q, hp, h1, hk, hd, hq, he, h => h p k q hp (Nat.le_refl _) (Nat.le_refl _) hd hq he
 | f + 1, k, q, p, Q, hp, h1, hk, hd, hq, he, h => by
  have hsz : k ≤ p.size := by rw [hp.size]; omega
  show cmp (at' p k) (at' p (k - 1)) (fun c s' => (if c = true then (if q > 0 then kas_desc f (kas_rev p (k - (q + 1)) k) (k + 1) 0 else kas_desc f p (k + 1) 0) else KasT.ask (at' p (k - 1)) (at' p k) fun d => if d = true then KasT.ret (p, k, q) else kas_desc f p (k + 1) (q + 1)).kasWp cmp Q s') s
  refine ha _ _ _ (hp.lt _ hn) (hp.lt _ hn) ?_
  by_cases c : r (at' p k) < r (at' p (k - 1))
  ·rw [decide_eq_true c]
   have go : ∀ p', Pm n p' → (∀ i, R r p' i = R r p i) → (kas_desc f p' (k + 1) 0).kasWp cmp Q s := fun p' hp' e => by
    refine desc_ok ha hn f (k + 1) 0 p' Q hp' (by omega) (by omega) ?_ (by omega) ?_ fun p2 m q' a1 a2 a3 a4 a5 a6 => h p2 m q' a1 (by omega) (by omega) a4 a5 a6
    ·intro i j hij hj
     rw [e, e]
     exact dn_succ hd (Int.le_of_lt c) i j hij hj
    ·intro i hi1 hi2
     have : i = k := by omega
     subst this; rfl
   show (if q > 0 then kas_desc f (kas_rev p (k - (q + 1)) k) (k + 1) 0 else kas_desc f p (k + 1) 0).kasWp cmp Q s
   by_cases hq0 : q > 0
   ·rw [if_pos hq0]; exact go _ (hp.rev _ _) (R_rev_eq hsz he)
   ·rw [if_neg hq0]; exact go p hp fun _ => rfl
  ·rw [decide_eq_false c]
   show cmp (at' p (k - 1)) (at' p k) (fun d s' => (if d = true then KasT.ret (p, k, q) else kas_desc f p (k + 1) (q + 1)).kasWp cmp Q s') s
   refine ha _ _ _ (hp.lt _ hn) (hp.lt _ hn) ?_
   by_cases d : r (at' p (k - 1)) < r (at' p k)
   ·rw [decide_eq_true d]
    exact h p k q hp (Nat.le_refl _) (by omega) hd hq he
   ·rw [decide_eq_false d]
    have e : R r p k = R r p (k - 1) := Int.le_antisymm (Int.not_lt.mp d) (Int.not_lt.mp c)
    show (kas_desc f p (k + 1) (q + 1)).kasWp cmp Q s
    refine desc_ok ha hn f (k + 1) (q + 1) p Q hp (by omega) (by omega) (dn_succ hd (Int.le_of_eq e)) (by omega) ?_ fun p2 m q' a1 a2 a3 a4 a5 a6 => h p2 m q' a1 (by omega) (by omega) a4 a5 a6
    intro i hi1 hi2
    rw [show k + 1 - 1 = k by omega, e]
    by_cases ik : i = k
    ·rw [ik, e]
    ·exact he i (by omega) (by omega)
theorem tail_ok (ha : Asks cmp n r s) (hn : 0 < n) {p : Array Nat} (hp : Pm n p) {k nrem : Nat} {Q : Nat × Array Nat → Shared → Prop} (h1 : 1 ≤ k) (hk : k ≤ nrem) (hz : nrem ≤ n) (hd : Dn r p k)
  (h : ∀ m p', Pm n p' → 1 ≤ m → m ≤ nrem → Up r p' m → Q (m, p') s) : (kas_tail3 k nrem p).kasWp cmp Q s := by
 unfold kas_tail3
 rw [KasT.kasWp_bind]
 have hsz : k ≤ p.size := by rw [hp.size]; omega
 refine asc_ok ha hn (hp.rev 0 k) _ _ _ h1 ?_ fun m a b u _ => h m _ (hp.rev 0 k) (by omega) (by omega) u
 intro i j hij hj
 rw [R_rev hsz, R_rev hsz, if_pos (by omega), if_pos (by omega)]
 exact hd _ _ (by omega) (by omega)
theorem part_ok (ha : Asks cmp n r s) (hn : 0 < n) {p : Array Nat} (hp : Pm n p) {k nrem : Nat} {Q : Nat × Array Nat → Shared → Prop} (hk : k + 1 ≤ nrem) (hz : nrem ≤ n) (hd : Dn r p (k + 1))
  (h : ∀ m p', Pm n p' → 1 ≤ m → m ≤ nrem → Up r p' m → Q (m, p') s) : (kas_descPart k nrem p).kasWp cmp Q s := by
 unfold kas_descPart
 rw [KasT.kasWp_bind]
 refine desc_ok ha hn _ (k + 1) 0 p _ hp (by omega) (by omega) hd (by omega) (fun i a b => show R r p i = R r p (k + 1 - 1) by rw [show i = k + 1 - 1 by omega]) fun p' m q hp' a1 a2 hd' hq he => ?_
 show (if q > 0 then kas_tail3 m nrem (kas_rev p' (m - (q + 1)) m) else kas_tail3 m nrem p').kasWp cmp Q s
 have hsz : m ≤ p'.size := by rw [hp'.size]; omega
 by_cases hq0 : q > 0
 ·rw [if_pos hq0]
  refine tail_ok ha hn (hp'.rev _ _) (by omega) (by omega) hz ?_ h
  intro i j hij hj
  rw [R_rev_eq hsz he, R_rev_eq hsz he]
  exact hd' i j hij hj
 ·rw [if_neg hq0]
  exact tail_ok ha hn hp' (by omega) (by omega) hz hd' h
theorem count_ok (ha : Asks cmp n r s) (hn : 0 < n) {p : Array Nat} (hp : Pm n p) {Q : Nat × Array Nat → Shared → Prop} 
  (h : ∀ m p', Pm n p' → 1 ≤ m → m ≤ n → Up r p' m → Q (m, p') s) : (kas_count n p).kasWp cmp Q s := by
 unfold kas_count
 rw [KasT.kasWp_bind]
 refine asc_ok ha hn hp _ 1 _ (Nat.le_refl _) (fun i j a b => show R r p i ≤ R r p j by rw [show i = j by omega]; exact Int.le_refl _) fun m a b u e => ?_
 by_cases e1 : m = n
 ·rw [if_pos (by simpa using e1)]
  exact h m p hp a (by omega) u
 ·rw [if_neg (by simpa using e1)]
  have hlt : R r p m < R r p (m - 1) := e.resolve_left (by omega)
  have dn1 : ∀ p', Pm n p' → Dn r p' m → (∀ i, R r p' i = R r p i) → Dn r p' (m + 1) := fun p' _ d z => dn_succ d (by rw [z, z]; exact Int.le_of_lt hlt)
  by_cases e2 : m > 1
  ·rw [if_pos e2]
   show cmp (at' p 0) (at' p (m - 1)) (fun c s' => (if c = true then KasT.ret (m, p) else kas_descPart m n (kas_rev p 0 m)).kasWp cmp Q s') s
   refine ha _ _ _ (hp.lt _ hn) (hp.lt _ hn) ?_
   by_cases c : r (at' p 0) < r (at' p (m - 1))
   ·rw [decide_eq_true c]
    exact h m p hp a (by omega) u
   ·rw [decide_eq_false c]
    have hall : ∀ k, 0 ≤ k → k < m → R r p k = R r p (m - 1) := fun k _ hk => by
     have a1 := u 0 k (by omega) hk
     have a2 := u k (m - 1) (by omega) (by omega)
     have a3 : R r p (m - 1) ≤ R r p 0 := Int.not_lt.mp c
     omega
    have hsz : m ≤ p.size := by rw [hp.size]; omega
    refine part_ok ha hn (hp.rev 0 m) (by omega) (Nat.le_refl _) (dn1 _ (hp.rev 0 m) ?_ (R_rev_eq hsz hall)) h
    intro i j hij hj
    rw [R_rev_eq hsz hall, R_rev_eq hsz hall, hall i (by omega) (by omega), hall j (by omega) hj]
    exact Int.le_refl _
  ·rw [if_neg e2]
   have : m = 1 := by omega
   subst this
   refine part_ok ha hn hp (by omega) (Nat.le_refl _) (dn1 p hp (fun i j hij hj => ?_) fun _ => rfl) h
   have : i = j := by omega
   subst this; exact Int.le_refl _
theorem place_ok (ha : Asks cmp n r s) (hn : 0 < n) {p : Array Nat} (hp : Pm n p) {k : Nat} (hu : Up r p k) : ∀ (f lo hi : Nat) (Q : Nat → Shared → Prop), lo ≤ hi → hi ≤ k → hi - lo ≤ f → (∀ i, i < lo → R r p i ≤ R r p k) → (∀ i, hi ≤ i → i < k → R r p k < R r p i) →
  (∀ l, l ≤ k → (∀ i, i < l → R r p i ≤ R r p k) → (∀ i, l ≤ i → i < k → R r p k < R r p i) → Q l s) → (kas_place p k f lo hi).kasWp cmp Q s
 | 0, lo, hi, Q, h1, h2, h3, hl, hh, h => h lo (by omega) hl fun i a b => hh i (by omega) b
 | f + 1, lo, hi, Q, h1, h2, h3, hl, hh, h => by
  unfold kas_place
  by_cases e : lo ≥ hi
  ·rw [if_pos e]
   exact h lo (by omega) hl fun i a b => hh i (by omega) b
  ·rw [if_neg e]
   show cmp (at' p k) (at' p ((lo + hi) / 2)) (fun c s' => (if c = true then kas_place p k f lo ((lo + hi) / 2) else kas_place p k f ((lo + hi) / 2 + 1) hi).kasWp cmp Q s') s
   refine ha _ _ _ (hp.lt _ hn) (hp.lt _ hn) ?_
   by_cases c : r (at' p k) < r (at' p ((lo + hi) / 2))
   ·rw [decide_eq_true c]
    refine place_ok ha hn hp hu f lo ((lo + hi) / 2) Q (by omega) (by omega) (by omega) hl (fun i a b => ?_) h
    exact Int.lt_of_lt_of_le c (hu ((lo + hi) / 2) i a b)
   ·rw [decide_eq_false c]
    refine place_ok ha hn hp hu f ((lo + hi) / 2 + 1) hi Q (by omega) (by omega) (by omega) (fun i a => ?_) hh h
    exact Int.le_trans (hu i ((lo + hi) / 2) (by omega) (by omega)) (Int.not_lt.mp c)
theorem bin_ok (ha : Asks cmp n r s) (hn : 0 < n) : ∀ (f k : Nat) (p : Array Nat) (Q : Array Nat → Shared → Prop), Pm n p → k + f = n → Up r p k → (∀ p', Pm n p' → Up r p' n → Q p' s) → (kas_bin f p k).kasWp cmp Q s
 | 0, k, p, Q, hp, hk, hu, h => h p hp (by rw [← hk]; exact hu)
 | f + 1, k, p, Q, hp, hk, hu, h => by
  show ((kas_place p k k 0 k).bind fun l => kas_bin f (bubble p k (k - l)) (k + 1)).kasWp cmp Q s
  rw [KasT.kasWp_bind]
  refine place_ok ha hn hp hu k 0 k _ (Nat.zero_le _) (Nat.le_refl _) (by omega) (fun i a => by omega) (fun i a b => by omega) fun l hl h1 h2 => ?_
  refine bin_ok ha hn f (k + 1) _ Q (hp.bub _ _) (by omega) ?_ h
  have hs : k < p.size := by rw [hp.size]; omega
  intro i j hij hj
  rw [R_bub hs (by omega), R_bub hs (by omega), show k - (k - l) = l by omega]
  by_cases c1 : i = l
  ·rw [if_pos c1]
   by_cases c2 : j = l
   ·rw [if_pos c2]; exact Int.le_refl _
   ·rw [if_neg c2, if_pos (by omega)]
    exact Int.le_of_lt (h2 (j - 1) (by omega) (by omega))
  ·rw [if_neg c1]
   by_cases c2 : j = l
   ·rw [if_pos c2, if_neg (by omega)]
    exact h1 i (by omega)
   ·rw [if_neg c2]
    by_cases c3 : l < i ∧ i ≤ k
    ·rw [if_pos c3, if_pos (by omega)]
     exact hu _ _ (by omega) (by omega)
    ·rw [if_neg c3]
     by_cases c4 : l < j ∧ j ≤ k
     ·rw [if_pos c4]
      exact hu _ _ (by omega) (by omega)
     ·rw [if_neg c4]
      exact hu _ _ hij (by omega)
theorem sort_ok (ha : Asks cmp n r s) (h2 : 2 ≤ n) {Q : Array Nat → Shared → Prop} (h : ∀ p, Pm n p → Up r p n → Q p s) : (kas_sort n).kasWp cmp Q s := by
 unfold kas_sort
 rw [KasT.kasWp_bind]
 refine count_ok ha (by omega) (Array.Perm.refl _) fun m p hp h1 hm u => ?_
 show (if m < n then kas_bin (n - max m 1) p (max m 1) else KasT.ret p).kasWp cmp Q s
 by_cases e : m < n
 ·rw [if_pos e]
  have : max m 1 = m := by omega
  rw [this]
  exact bin_ok ha (by omega) _ _ p Q hp (by omega) u h
 ·rw [if_neg e]
  have : m = n := by omega
  subst this
  exact h p hp u
end
end Srt
namespace Srt
open PySem PySem.W PyProof.Rows
section
variable {prog : Program} {w : World} {A : Around} {E : Value → Shared → Prop} {s : Shared} {κ : SortKind} {r : Nat → Int}
noncomputable def But (a : Addr) (h h' : Heap) : Prop := ∀ b o, b ≠ a → h.get? b = some o → h'.get? b = some o
theorem pm_range (n : Nat) : Pm n (List.toArray (List.range n)) := Array.Perm.refl _
theorem up_short {p : Array Nat} {n : Nat} (h : n < 2) : Up r p n := fun i j hij hj => by
 have : i = j := by omega
 subst this; exact Int.le_refl _
theorem range_map (vs : List Value) : (List.toArray (List.range vs.length)).toList.map (fun i => vs.getD i Value.none) = vs := by
 refine List.ext_getElem (by simp) fun i h1 h2 => ?_
 simp [h2]
theorem sort_raw {a : Addr} {vs : List Value} {n : Nat} {P : PySem.Fin → Shared → Prop} (ho : s.heap.get? a = some (seqObj "list" vs.toArray n)) (h64 : vs.length < 64)
  (hk : 2 ≤ vs.length → ∀ h', But a s.heap h' → (∀ Q : SortKind → Shared → Prop, Q κ { s with heap := h' } → wpAny (model prog w) A (keyKind' vs.toArray) Q E { s with heap := h' }) ∧ Asks (kas_ask prog w A κ vs) vs.length r { s with heap := h' })
  (h : ∀ h' c p, Pm vs.length p → Up r p vs.length → h'.get? a = some (seqObj "list" (p.toList.map fun i => vs.getD i Value.none).toArray c) → But a s.heap h' → P (.done (.ret .none)) { s with heap := h' }) :
  wpAny (model prog w) A (Builtin.«list.sort» ⟨[.ref a], []⟩) P E s := by
 have la := Heap.lt_size ho
 obtain ⟨c1, o1⟩ : ∃ c1, (s.heap.update a (Obj.mapSeq fun _ => (#[] : Array Value))).get? a = some (seqObj "list" #[] c1) := ⟨_, get?_update_seq ho fun _ => #[]⟩
 have b1 : But a s.heap (s.heap.update a (Obj.mapSeq fun _ => (#[] : Array Value))) := fun b o hb e => by rw [Heap.get?_update_ne _ _ _ _ hb]; exact e
 generalize hg1 : s.heap.update a (Obj.mapSeq fun _ => (#[] : Array Value)) = g1 at o1 b1
 have o3 : ((g1.push (seqObj "tuple" vs.toArray 0)).push (seqObj "list" #[] 0)).get? a = some (seqObj "list" #[] c1) := Heap.get?_push_of_some _ (Heap.get?_push_of_some _ o1)
 have b3 : But a s.heap ((g1.push (seqObj "tuple" vs.toArray 0)).push (seqObj "list" #[] 0)) := fun b o hb e => Heap.get?_push_of_some _ (Heap.get?_push_of_some _ (b1 b o hb e))
 rw [list_sort_plain]
 refine wpAny_bind (listItems_at ho rfl ?_)
 refine wpAny_bind (listUpdate_at ho rfl ?_ (by rw [List.size_toArray, sizeLine_eq]; omega) (Nat.zero_le _))
 rw [hg1]
 refine wpAny_bind (seqEpoch_at o1 rfl ?_)
 refine wpAny_bind (wpAny_newTuple ?_ (by show vs.length ≤ _; rw [sizeLine_eq]; omega))
 refine wpAny_bind (wpAny_newList ?_ (Nat.zero_le _))
 refine wpAny_holding ?_
 show wpAny (model prog w) A _ P E { s with heap := (g1.push (seqObj "tuple" vs.toArray 0)).push (seqObj "list" #[] 0) }
 generalize (g1.push (seqObj "tuple" vs.toArray 0)).push (seqObj "list" #[] 0) = g3 at o3 b3
 dsimp only
 have fin : ∀ (st : SortSt) (p : Array Nat), Pm vs.length p → Up r p vs.length → (arrOf st).map (·.2) = (p.toList.map fun i => vs.getD i Value.none).toArray → failedOf st = none →
   wpAny (model prog w) A (do
    let touched := (← seqEpoch a) != c1
    Builtin.List.listUpdate (.ref a) fun _ => (arrOf st).map (·.2)
    if let some e := failedOf st then rule "list.sort.comparison-raised"; throw e
    if touched then rule "list.sort.modified"; raiseError "ValueError" "list modified during sort"
    ret .none) P E { s with heap := g3 } := fun st p hp hu hout hf => by
  rw [hout, hf]
  have hz : (p.toList.map fun i => vs.getD i Value.none).toArray.size = vs.length := by rw [List.size_toArray, List.length_map, Array.length_toList, hp.size]
  obtain ⟨c4, o4⟩ : ∃ c4, (g3.update a (Obj.mapSeq fun _ => (p.toList.map fun i => vs.getD i Value.none).toArray)).get? a = some (seqObj "list" (p.toList.map fun i => vs.getD i Value.none).toArray c4) := ⟨_, get?_update_seq o3 fun _ => (p.toList.map fun i => vs.getD i Value.none).toArray⟩
  refine wpAny_bind (seqEpoch_at o3 rfl ?_)
  refine wpAny_bind (listUpdate_at o3 rfl ?_ (Nat.zero_le _) (Nat.le_trans (Nat.le_of_eq hz) (by rw [sizeLine_eq]; omega)))
  simp only [bne_self_eq_false, Bool.false_eq_true, if_false]
  exact wpAny_pure (h _ c4 p hp hu o4 fun b o hb e => by rw [Heap.get?_update_ne _ _ _ _ hb]; exact b3 b o hb e)
 by_cases h2 : vs.toArray.size < 2
 ·rw [if_pos h2, if_pos h2]
  refine wpAny_bind (wpAny_pure ?_)
  rw [StateT.run_pure]
  refine wpAny_bind (wpAny_pure ?_)
  refine fin _ _ (pm_range _) (up_short (by rw [List.size_toArray] at h2; exact h2)) ?_ rfl
  rw [range_map]
  show (vs.toArray.zip vs.toArray).map (·.2) = _
  apply Array.toList_inj.mp
  simp [List.map_snd_zip]
 ·rw [if_neg h2, if_neg h2]
  rw [List.size_toArray] at h2
  obtain ⟨kk, ask⟩ := hk (by omega) g3 b3
  refine wpAny_bind (kk _ ?_)
  refine wpAny_bind (wpAny_mono (kat_run (Q := fun st' s' => s' = { s with heap := g3 } ∧ ∃ p, Pm vs.length p ∧ Up r p vs.length ∧ arrOf st' = p.map (kas_item (vs.toArray.zip vs.toArray)) ∧ failedOf st' = none) (G := fun p s' => s' = { s with heap := g3 } ∧ Pm vs.length p ∧ Up r p vs.length)
   rfl (by omega) h64 (fun p st' s' a1 a2 a3 a4 => ⟨a4.1, p, a4.2.1, a4.2.2, a2, a3⟩) (sort_ok ask (by omega) fun p hp hu => ⟨rfl, hp, hu⟩)) ?_ fun _ _ e => e)
  rintro ⟨⟨⟩, st'⟩ s' ⟨rfl, p, hp, hu, har, hf⟩
  exact fin st' p hp hu (kat_snds rfl har) hf
theorem sorted_raw {x : Value} {vs : List Value} {Q : Value → Shared → Prop} (h64 : vs.length < 64)
  (hc : ∀ Q' : List Value → Shared → Prop, (∀ h1 tk, (∀ b o, s.heap.get? b = some o → h1.get? b = some o) → s.heap.objs.size ≤ h1.objs.size → Q' vs { s with heap := h1, toks := tk }) → wpAny (model prog w) A.in1 (collect x) Q' E s)
  (hr : ∀ h1 tk, (∀ b o, s.heap.get? b = some o → h1.get? b = some o) → 2 ≤ vs.length → (∀ Q : SortKind → Shared → Prop, Q κ { s with heap := h1, toks := tk } → wpAny (model prog w) A.in1.in1 (keyKind' vs.toArray) Q E { s with heap := h1, toks := tk }) ∧ Asks (kas_ask prog w A.in1.in1 κ vs) vs.length r { s with heap := h1, toks := tk })
  (h : ∀ D h' tk c p, s.heap.objs.size ≤ D → Pm vs.length p → Up r p vs.length → h'.get? D = some (seqObj "list" (p.toList.map fun i => vs.getD i Value.none).toArray c) → (∀ b o, s.heap.get? b = some o → h'.get? b = some o) → Q (.ref D) { s with heap := h', toks := tk }) :
  wpAny (model prog w) A (call (.builtin "sorted") [x]) Q E s := by
 refine Calls.call_function_entry kind_sorted plain_sorted entry_sorted (args_sorted1 _) ?_
 unfold Builtin.«sorted»
 refine wpAny_bind (m := checkCount "sorted" 1 1 _) (wpAny_pure ?_)
 refine wpAny_bind (hc _ fun h1 tk k1 z1 => ?_)
 refine wpAny_bind (wpAny_newList ?_ (by rw [sizeLine_eq]; omega))
 have oL : (h1.push (seqObj "list" vs.toArray 0)).get? h1.objs.size = some (seqObj "list" vs.toArray 0) := Heap.get?_push_size _ rfl
 have kL : ∀ b o, s.heap.get? b = some o → (h1.push (seqObj "list" vs.toArray 0)).get? b = some o ∧ b ≠ h1.objs.size := fun b o e => ⟨Heap.get?_push_of_some _ (k1 b o e), Nat.ne_of_lt (Nat.lt_of_lt_of_le (Heap.lt_size e) z1)⟩
 refine wpAny_bind (wpAny_holding (wpAny_call_entry slot_list_sort ⟨_, oL, rfl⟩ entry_list_sort ?_ (args_list_sort _)))
 refine sort_raw (κ := κ) (r := r) oL h64 (fun h2 h' b' => hr h' tk (fun b o e => b' b o (kL b o e).2 (kL b o e).1) h2) fun h' c p hp hu o' b' => ⟨_, rfl, ?_⟩
 exact wpAny_pure ⟨_, rfl, h h1.objs.size h' tk c p z1 hp hu o' fun b o e => b' b o (kL b o e).2 (kL b o e).1⟩
end
end Srt
namespace Srt
theorem lex_irr : ∀ xs : List Int, HT.lexLt xs xs = false
 | [] => rfl
 | x :: xs => by rw [HT.lexLt_cons, if_pos rfl]; exact lex_irr xs
theorem lex_tr : ∀ {xs ys zs : List Int}, HT.lexLt xs ys = true → HT.lexLt ys zs = true → HT.lexLt xs zs = true
 | [], [], _, h, _ => by cases h
 | [], _ :: _, [], _, h => by cases h
 | [], _ :: _, _ :: _, _, _ => rfl
 | _ :: _, [], _, h, _ => by cases h
 | _ :: _, _ :: _, [], _, h => by cases h
 | x :: xs, y :: ys, z :: zs, h1, h2 => by
  rw [HT.lexLt_cons] at h1 h2 ⊢
  by_cases e1 : x = y
  ·subst e1
   rw [if_pos rfl] at h1
   by_cases e2 : x = z
   ·subst e2
    rw [if_pos rfl] at h2 ⊢
    exact lex_tr h1 h2
   ·rw [if_neg e2] at h2 ⊢; exact h2
  ·rw [if_neg e1, decide_eq_true_eq] at h1
   by_cases e2 : y = z
   ·subst e2
    rw [if_neg e1, decide_eq_true_eq]; exact h1
   ·rw [if_neg e2, decide_eq_true_eq] at h2
    rw [if_neg (by omega), decide_eq_true_eq]; omega
theorem lex_tot : ∀ {xs ys : List Int}, HT.lexLt xs ys = false → HT.lexLt ys xs = false → xs = ys
 | [], [], _, _ => rfl
 | [], _ :: _, h, _ => by cases h
 | _ :: _, [], _, h => by cases h
 | x :: xs, y :: ys, h1, h2 => by
  rw [HT.lexLt_cons] at h1 h2
  by_cases e : x = y
  ·subst e
   rw [if_pos rfl] at h1 h2
   rw [lex_tot h1 h2]
  ·rw [if_neg e, decide_eq_false_iff_not] at h1
   rw [if_neg (fun z => e z.symm), decide_eq_false_iff_not] at h2
   omega
noncomputable def rank (rows : List (List Int)) (x : List Int) : Int := (rows.countP fun z => HT.lexLt z x : Nat)
theorem count_le {α : Type} {p q : α → Bool} : ∀ {l : List α}, (∀ a ∈ l, p a = true → q a = true) → l.countP p ≤ l.countP q
 | [], _ => by simp
 | a :: l, h => by
  have ih := count_le (p := p) (q := q) (l := l) fun b hb => h b (List.mem_cons_of_mem _ hb)
  rw [List.countP_cons, List.countP_cons]
  have := h a List.mem_cons_self
  cases hp : p a <;> cases hq : q a <;> simp_all <;> omega
theorem count_lt {α : Type} {p q : α → Bool} {x : α} : ∀ {l : List α}, (∀ a ∈ l, p a = true → q a = true) → x ∈ l → p x = false → q x = true → l.countP p < l.countP q
 | [], _, hx, _, _ => by cases hx
 | a :: l, h, hx, hp, hq => by
  have hl : ∀ b ∈ l, p b = true → q b = true := fun b hb => h b (List.mem_cons_of_mem _ hb)
  rw [List.countP_cons, List.countP_cons]
  rcases List.mem_cons.mp hx with e | e
  ·subst e
   have := count_le hl
   rw [hp, hq]
   simp
   omega
  ·have ih := count_lt hl e hp hq
   have := h a List.mem_cons_self
   cases hp' : p a <;> cases hq' : q a <;> simp_all <;> omega
theorem rank_lt {rows : List (List Int)} {x y : List Int} (hx : x ∈ rows) (hy : y ∈ rows) : decide (rank rows x < rank rows y) = HT.lexLt x y := by
 unfold rank
 cases h : HT.lexLt x y with
 | true =>
  rw [decide_eq_true_eq]
  have := count_lt (l := rows) (p := fun z => HT.lexLt z x) (q := fun z => HT.lexLt z y) (fun a _ ha => lex_tr ha h) hx (lex_irr x) h
  omega
 | false =>
  rw [decide_eq_false_iff_not]
  have : rows.countP (fun z => HT.lexLt z y) ≤ rows.countP (fun z => HT.lexLt z x) := by
   refine count_le fun a _ ha => ?_
   cases h2 : HT.lexLt y x with
   | true => exact lex_tr ha h2
   | false => rw [lex_tot h h2]; exact ha
  omega
end Srt
namespace L2
open PySem PySem.Spec PyProof.Rows Srt
section
variable {prog : Program} {w : World} {A : Around}
theorem lex_same {C : Bool → Shared → Prop} {s : Shared} {b : Bool} : ∀ {xs ys : List Int} {us ws : List Value} (i : Nat), Vals (xs.map V.int) us → Vals (ys.map V.int) ws → C (HT.lexLt xs ys) s →
  PySem.W.KatLex prog w A b (decide (xs.length < ys.length)) C (us.zip ws) i s
 | [], [], _, _, i, .nil, .nil, h => by
  show C (decide (0 < 0)) s
  exact h
 | [], y :: ys, _, _, i, .nil, .cons _ _, h => by
  show C (decide (0 < ys.length + 1)) s
  rw [decide_eq_true (by omega)]; exact h
 | x :: xs, [], _, _, i, .cons _ _, .nil, h => by
  show C (decide (xs.length + 1 < 0)) s
  rw [decide_eq_false (by omega)]; exact h
 | x :: xs, y :: ys, _, _, i, .cons r1 t1, .cons r2 t2, h => by
  obtain ⟨t, rfl⟩ := r1
  obtain ⟨u, rfl⟩ := r2
  rw [HT.lexLt_cons] at h
  refine PySem.W.kat_cons (wpAny_eqBool_int ?_)
  by_cases e : x = y
  ·subst e
   rw [if_pos rfl] at h
   rw [show (x == x) = true by simp]
   refine PySem.W.kat_yes ?_
   have := lex_same (b := b) (i + 1) t1 t2 h
   rw [show decide ((x :: xs).length < (x :: ys).length) = decide (xs.length < ys.length) by simp]
   exact this
  ·rw [if_neg e] at h
   rw [show (x == y) = false by simpa using e]
   refine PySem.W.kat_no ?_
   cases b && i == 0 with
   | true => exact oneLt_int h
   | false => exact PySem.W.kat_one _ _ (PyProof.Rows.lt_int (show PySem.W.BoolBack C (Value.bool (decide (x < y))) s from h))
end
theorem refs_of : ∀ {as : List Addr} {us : List Value}, Vals (as.map V.ref) us → us = as.map Value.ref
 | [], _, .nil => rfl
 | a :: as, _, .cons r t => by rw [refs_of t]; cases (show _ = Value.ref a from r); rfl
theorem vals_fst : ∀ zs : List (Addr × List Int), Vals (zs.map fun z => V.ref z.1) (zs.map fun z => Value.ref z.1)
 | [] => .nil
 | z :: zs => .cons rfl (vals_fst zs)
section
variable {X : Cx}
noncomputable def Sorted2 (zs zs' : List (Addr × List Int)) : Prop := zs'.Perm zs ∧ zs'.Pairwise fun a b => HT.lexLt b.2 a.2 = false
theorem sorted_out {zs : List (Addr × List Int)} {p : Array Nat} (hp : Pm zs.length p) (hu : Up (fun i => rank (zs.map (·.2)) ((zs.getD i (0, [])).2)) p zs.length) : Sorted2 zs (p.toList.map fun i => zs.getD i (0, [])) := by
 have hperm := Array.perm_iff_toList_perm.mp hp
 constructor
 ·have h1 := hperm.map fun i => zs.getD i (0, [])
  refine h1.trans (List.Perm.of_eq ?_)
  refine List.ext_getElem (by simp) fun i a b => ?_
  simp [b]
 ·rw [List.pairwise_map, List.pairwise_iff_getElem]
  intro i j hi hj hij
  have hsz : p.toList.length = zs.length := by rw [Array.length_toList, hp.size]
  have h1 := hu i j (by omega) (by omega)
  have mem : ∀ k (hk : k < p.toList.length), (zs.getD (p.toList[k]'hk) (0, [])).2 ∈ zs.map (·.2) := fun k hk => by
   have : p.toList[k] < zs.length := by
    have := hperm.mem_iff.mp (List.getElem_mem hk)
    simpa using this
   have e : zs.getD p.toList[k] (0, []) = zs[p.toList[k]] := by rw [List.getD_eq_getElem?_getD, List.getElem?_eq_getElem this]; rfl
   rw [e]
   exact List.mem_map_of_mem (List.getElem_mem _)
  have e : ∀ k (hk : k < p.toList.length), at' p k = p.toList[k] := fun k hk => by
   have : k < p.size := by simpa using hk
   unfold at'; simp [Array.getD, this]
  unfold R at h1
  rw [e i hi, e j hj] at h1
  rw [← rank_lt (mem j hj) (mem i hi), decide_eq_false_iff_not]
  exact Int.not_lt.mpr h1
theorem call_sortedT : CallR X (.builtin "sorted") (fun xs H Q => ∃ (p : Addr) (zs : List (Addr × List Int)), xs = [.ref p] ∧ SqL X.K H p (zs.map fun z => V.ref z.1) ∧ (∀ z ∈ zs, H z.1 = some (.tup (z.2.map V.int)) ∧ z.2 ≠ []) ∧ zs.length < 64 ∧
  ∀ l zs', H l = none → Sorted2 zs zs' → Q (.ref l) (upd H l (.lst (zs'.map fun z => V.ref z.1)))) := by
 intro pins s σ H xs us Q I r h
 obtain ⟨p, zs, rfl, hq, hz, h64, q⟩ := h
 obtain ⟨u, rfl, rx⟩ := vals1 r
 cases rx
 obtain ⟨its, rv, pl, _⟩ := I.list hq
 have hits : its = zs.map fun z => Value.ref z.1 := by
  have := refs_of (as := zs.map (·.1)) (us := its) (by rw [List.map_map]; exact rv)
  rw [this, List.map_map]; rfl
 subst hits
 have isl := pl.isList
 have tup : ∀ (h' : Heap), (∀ b o, s.heap.get? b = some o → h'.get? b = some o) → ∀ z ∈ zs, ∃ it : List Value, Vals (z.2.map V.int) it ∧ ∃ o n, h'.get? z.1 = some o ∧ o.cls = .type "tuple" ∧ o.data = .seq it.toArray n := fun h' k z hm => by
  obtain ⟨_, it, rt, o, ho, hc, n, hd⟩ := (show ObjOk X.prog X.w H s.heap z.1 (.tup _) from I.hok _ _ (hz z hm).1)
  exact ⟨it, rt, o, n, k _ _ ho, hc, hd⟩
 have gd : ∀ i, i < zs.length → (zs.map fun z => Value.ref z.1).getD i Value.none = .ref (zs.getD i (0, [])).1 ∧ zs.getD i (0, []) ∈ zs := fun i hi => by
  constructor
  ·simp [hi]
  ·rw [show zs.getD i (0, []) = zs[i] by simp [hi]]; exact List.getElem_mem _
 refine sorted_raw (κ := tuples' true) (r := fun i => rank (zs.map (·.2)) ((zs.getD i (0, [])).2)) (vs := zs.map fun z => Value.ref z.1) (by rw [List.length_map]; exact h64) (fun Q' k => ?_) (fun h1 tk k1 h2 => ⟨fun Q2 q2 => ?_, fun i j C hi hj hC => ?_⟩) fun D h' tk c pp hD hp hu o' k' => ?_
 ·refine collect_list isl ?_ (by rw [List.length_map, sizeLine_eq]; omega)
  have e : s = { s with toks := s.toks } := rfl
  refine k _ s.toks (fun b o e => ?_) (by rw [Heap.size_update, size_push']; exact Nat.le_succ _)
  rw [Heap.get?_update_ne _ _ _ _ (Nat.ne_of_lt (Heap.lt_size e))]
  exact Heap.get?_push_of_some _ e
 ·have key : ∀ ys : List (Addr × List Int), (∀ z ∈ ys, z ∈ zs) → ∃ fs : List Value, PySem.W.KatTups h1 (ys.map fun z => Value.ref z.1) fs ∧ fs.length = ys.length ∧ ∀ v ∈ fs, ∃ n t, v = .int n t := fun ys => by
   induction ys with
   | nil => intro _; exact ⟨[], trivial, rfl, fun v hv => by cases hv⟩
   | cons z ys ih =>
    intro hm
    obtain ⟨fs, g1, g2, g3⟩ := ih fun y hy => hm y (List.mem_cons_of_mem _ hy)
    obtain ⟨it, rt, o, n, ho, hc, hd⟩ := tup h1 k1 z (hm z List.mem_cons_self)
    obtain ⟨x, xs', ex⟩ := List.exists_cons_of_ne_nil (hz z (hm z List.mem_cons_self)).2
    rw [ex] at rt
    cases rt with
    | cons r0 t0 =>
     obtain ⟨t, rfl⟩ := r0
     exact ⟨.int x t :: fs, PySem.W.KatTups.cons ho hc hd (by simp) g1, by simp [g2], fun v hv => by
      rcases List.mem_cons.mp hv with e | e
      ·exact ⟨x, t, e⟩
      ·exact g3 v e⟩
  obtain ⟨fs, g1, g2, g3⟩ := key zs fun z hz => hz
  rw [List.length_map] at h2
  refine PySem.W.kat_kind (T := .type "int") (s := { s with heap := h1, toks := tk }) g1 (by omega) (fun v hv => ?_) rfl q2
  obtain ⟨n, t, rfl⟩ := g3 v hv
  exact PySem.W.Looks.of_pure rfl
 ·rw [List.length_map] at hi hj
  obtain ⟨ei, mi⟩ := gd i hi
  obtain ⟨ej, mj⟩ := gd j hj
  show wpAny _ _ (keyLt' (tuples' true) ((zs.map fun z => Value.ref z.1).getD i Value.none) ((zs.map fun z => Value.ref z.1).getD j Value.none)) C (fun _ _ => False) _
  rw [ei, ej]
  obtain ⟨it, rt, o, n, ho, hc, hd⟩ := tup h1 k1 _ mi
  obtain ⟨it2, rt2, o2, n2, ho2, hc2, hd2⟩ := tup h1 k1 _ mj
  rw [rank_lt (List.mem_map_of_mem mi) (List.mem_map_of_mem mj)] at hC
  refine PySem.W.kat_lt (s := { s with heap := h1, toks := tk }) ho hd ho2 hd2 ?_
  have l1 := rt.length
  have l2 := rt2.length
  rw [List.length_map] at l1 l2
  rw [List.size_toArray, List.size_toArray, ← l1, ← l2]
  exact lex_same 0 rt rt2 hC
 ·rw [List.length_map] at hp hu
  have so := sorted_out hp hu
  have eo : (pp.toList.map fun i => (zs.map fun z => Value.ref z.1).getD i Value.none) = (pp.toList.map fun i => zs.getD i (0, [])).map fun z => Value.ref z.1 := by
   rw [List.map_map]
   refine List.map_congr_left fun i hi => ?_
   have : i < zs.length := by
    have := (Array.perm_iff_toList_perm.mp hp).mem_iff.mp hi
    simpa using this
   exact (gd i this).1
  rw [eo] at o'
  have hlen := so.1.length_eq
  refine ⟨.ref D, _, I.laid (t' := tk) (o := .lst ((pp.toList.map fun i => zs.getD i (0, [])).map fun z => V.ref z.1)) k' hD ⟨by rw [List.length_map, hlen, sizeLine_eq]; omega, _, c, ?_, o'⟩, rfl, q _ _ (I.hok.fresh hD) so⟩
  exact vals_fst _
end
end L2
namespace Wlk
noncomputable abbrev Pl := Int × Int
noncomputable abbrev WStep := Pl × Pl
noncomputable def sidesP (c : Pl) : List (Pl × WStep) := [((c.1 - 1, c.2), ((c.1, c.2), (c.1, c.2 + 1))), ((c.1, c.2 + 1), ((c.1, c.2 + 1), (c.1 + 1, c.2 + 1))), ((c.1 + 1, c.2), ((c.1 + 1, c.2 + 1), (c.1 + 1, c.2))), ((c.1, c.2 - 1), ((c.1 + 1, c.2), (c.1, c.2)))]
noncomputable def openS (land : List Pl) (c : Pl) : List WStep := ((sidesP c).filter fun b => !decide (b.1 ∈ land)).map (·.2)
noncomputable def stepsU (land : List Pl) : List WStep := (land.map (openS land)).flatten
noncomputable def outS (b : Pl) : Fin 4 → WStep
 | 0 => (b, (b.1, b.2 + 1))
 | 1 => (b, (b.1 + 1, b.2))
 | 2 => (b, (b.1, b.2 - 1))
 | 3 => (b, (b.1 - 1, b.2))
noncomputable def inS (b : Pl) : Fin 4 → WStep
 | 0 => ((b.1, b.2 - 1), b)
 | 1 => ((b.1 - 1, b.2), b)
 | 2 => ((b.1, b.2 + 1), b)
 | 3 => ((b.1 + 1, b.2), b)
noncomputable def cout (nw ne sw se : Bool) : Fin 4 → Bool
 | 0 => se && !ne
 | 1 => sw && !se
 | 2 => nw && !sw
 | 3 => ne && !nw
noncomputable def cin (nw ne sw se : Bool) : Fin 4 → Bool
 | 0 => sw && !nw
 | 1 => nw && !ne
 | 2 => ne && !se
 | 3 => se && !sw
noncomputable def nx (nw ne sw se : Bool) (d : Fin 4) : Fin 4 := if cout nw ne sw se (d + 1) = true then d + 1 else if cout nw ne sw se d = true then d else d + 3
theorem nx_out : ∀ nw ne sw se d, cin nw ne sw se d = true → cout nw ne sw se (nx nw ne sw se d) = true := by decide
theorem nx_one : ∀ nw ne sw se d, cin nw ne sw se d = true → cout nw ne sw se (d + 1) = false → ∀ e, cout nw ne sw se e = true → e = nx nw ne sw se d := by decide
theorem nx_inj : ∀ nw ne sw se d e, cin nw ne sw se d = true → cin nw ne sw se e = true → nx nw ne sw se d = nx nw ne sw se e → d = e := by decide
section
variable (land : List Pl) (b : Pl)
noncomputable def bNW : Bool := decide ((b.1 - 1, b.2 - 1) ∈ land)
noncomputable def bNE : Bool := decide ((b.1 - 1, b.2) ∈ land)
noncomputable def bSW : Bool := decide ((b.1, b.2 - 1) ∈ land)
noncomputable def bSE : Bool := decide ((b.1, b.2) ∈ land)
noncomputable abbrev cO := cout (bNW land b) (bNE land b) (bSW land b) (bSE land b)
noncomputable abbrev cI := cin (bNW land b) (bNE land b) (bSW land b) (bSE land b)
noncomputable abbrev nX := nx (bNW land b) (bNE land b) (bSW land b) (bSE land b)
end
theorem mem_U {land : List Pl} {s : WStep} : s ∈ stepsU land ↔ ∃ c ∈ land, ((c.1 - 1, c.2) ∉ land ∧ s = ((c.1, c.2), (c.1, c.2 + 1))) ∨ ((c.1, c.2 + 1) ∉ land ∧ s = ((c.1, c.2 + 1), (c.1 + 1, c.2 + 1))) ∨ ((c.1 + 1, c.2) ∉ land ∧ s = ((c.1 + 1, c.2 + 1), (c.1 + 1, c.2))) ∨ ((c.1, c.2 - 1) ∉ land ∧ s = ((c.1 + 1, c.2), (c.1, c.2))) := by
 unfold stepsU openS sidesP
 rw [List.mem_flatten]
 constructor
 ·rintro ⟨l, hl, hs⟩
  obtain ⟨c, hc, rfl⟩ := List.mem_map.mp hl
  obtain ⟨x, hx, rfl⟩ := List.mem_map.mp hs
  obtain ⟨h1, h2⟩ := List.mem_filter.mp hx
  have h3 : x.1 ∉ land := by simpa using h2
  refine ⟨c, hc, ?_⟩
  simp only [List.mem_cons, List.not_mem_nil, or_false] at h1
  rcases h1 with rfl | rfl | rfl | rfl
  ·exact .inl ⟨h3, rfl⟩
  ·exact .inr (.inl ⟨h3, rfl⟩)
  ·exact .inr (.inr (.inl ⟨h3, rfl⟩))
  ·exact .inr (.inr (.inr ⟨h3, rfl⟩))
 ·rintro ⟨c, hc, h⟩
  refine ⟨_, List.mem_map.mpr ⟨c, hc, rfl⟩, ?_⟩
  rcases h with ⟨h, rfl⟩ | ⟨h, rfl⟩ | ⟨h, rfl⟩ | ⟨h, rfl⟩
  ·exact List.mem_map.mpr ⟨((c.1 - 1, c.2), _), List.mem_filter.mpr ⟨by simp, by simpa using h⟩, rfl⟩
  ·exact List.mem_map.mpr ⟨((c.1, c.2 + 1), _), List.mem_filter.mpr ⟨by simp, by simpa using h⟩, rfl⟩
  ·exact List.mem_map.mpr ⟨((c.1 + 1, c.2), _), List.mem_filter.mpr ⟨by simp, by simpa using h⟩, rfl⟩
  ·exact List.mem_map.mpr ⟨((c.1, c.2 - 1), _), List.mem_filter.mpr ⟨by simp, by simpa using h⟩, rfl⟩
theorem mem_out {land : List Pl} {b : Pl} {o : WStep} : (o ∈ stepsU land ∧ o.1 = b) ↔ ∃ d, o = outS b d ∧ cO land b d = true := by
 constructor
 ·rintro ⟨hm, rfl⟩
  obtain ⟨⟨x, y⟩, hc, h⟩ := mem_U.mp hm
  dsimp only at h
  rcases h with ⟨h1, rfl⟩ | ⟨h1, rfl⟩ | ⟨h1, rfl⟩ | ⟨h1, rfl⟩
  ·exact ⟨0, rfl, by simp [cout, bSE, bNE, hc, h1]⟩
  ·exact ⟨1, rfl, by simp [cout, bSW, bSE, Int.add_sub_cancel, hc, h1]⟩
  ·refine ⟨2, ?_, ?_⟩
   ·show _ = (_, (_, y + 1 - 1)); rw [Int.add_sub_cancel]
   ·simp [cout, bNW, bSW, Int.add_sub_cancel, hc, h1]
  ·refine ⟨3, ?_, ?_⟩
   ·show _ = (_, (x + 1 - 1, _)); rw [Int.add_sub_cancel]
   ·simp [cout, bNE, bNW, Int.add_sub_cancel, hc, h1]
 ·rintro ⟨d, rfl, h⟩
  obtain ⟨x, y⟩ := b
  match d, h with
  | 0, h =>
   simp only [cO, cout, bSE, bNE, Bool.and_eq_true, Bool.not_eq_true', decide_eq_true_eq, decide_eq_false_iff_not] at h
   exact ⟨mem_U.mpr ⟨(x, y), h.1, .inl ⟨h.2, rfl⟩⟩, rfl⟩
  | 1, h =>
   simp only [cO, cout, bSW, bSE, Bool.and_eq_true, Bool.not_eq_true', decide_eq_true_eq, decide_eq_false_iff_not] at h
   refine ⟨mem_U.mpr ⟨(x, y - 1), h.1, .inr (.inl ⟨?_, ?_⟩)⟩, rfl⟩
   ·show (x, y - 1 + 1) ∉ land; rw [Int.sub_add_cancel]; exact h.2
   ·show ((x, y), (x + 1, y)) = ((x, y - 1 + 1), (x + 1, y - 1 + 1)); rw [Int.sub_add_cancel]
  | 2, h =>
   simp only [cO, cout, bSW, bNW, Bool.and_eq_true, Bool.not_eq_true', decide_eq_true_eq, decide_eq_false_iff_not] at h
   refine ⟨mem_U.mpr ⟨(x - 1, y - 1), h.1, .inr (.inr (.inl ⟨?_, ?_⟩))⟩, rfl⟩
   ·show (x - 1 + 1, y - 1) ∉ land; rw [Int.sub_add_cancel]; exact h.2
   ·show ((x, y), (x, y - 1)) = ((x - 1 + 1, y - 1 + 1), (x - 1 + 1, y - 1)); rw [Int.sub_add_cancel, Int.sub_add_cancel]
  | 3, h =>
   simp only [cO, cout, bNE, bNW, Bool.and_eq_true, Bool.not_eq_true', decide_eq_true_eq, decide_eq_false_iff_not] at h
   refine ⟨mem_U.mpr ⟨(x - 1, y), h.1, .inr (.inr (.inr ⟨h.2, ?_⟩))⟩, rfl⟩
   show ((x, y), (x - 1, y)) = ((x - 1 + 1, y), (x - 1, y)); rw [Int.sub_add_cancel]
theorem mem_in {land : List Pl} {o : WStep} (hm : o ∈ stepsU land) : ∃ d, o = inS o.2 d ∧ cI land o.2 d = true := by
 obtain ⟨⟨x, y⟩, hc, h⟩ := mem_U.mp hm
 dsimp only at h
 rcases h with ⟨h1, rfl⟩ | ⟨h1, rfl⟩ | ⟨h1, rfl⟩ | ⟨h1, rfl⟩
 ·refine ⟨0, ?_, ?_⟩
  ·show _ = ((_, y + 1 - 1), _); rw [Int.add_sub_cancel]
  ·simp [cin, bSW, bNW, Int.add_sub_cancel, hc, h1]
 ·refine ⟨1, ?_, ?_⟩
  ·show _ = ((x + 1 - 1, _), _); rw [Int.add_sub_cancel]
  ·simp [cin, bNW, bNE, Int.add_sub_cancel, hc, h1]
 ·exact ⟨2, rfl, by simp [cin, bNE, bSE, Int.add_sub_cancel, hc, h1]⟩
 ·exact ⟨3, rfl, by simp [cin, bSE, bSW, hc, h1]⟩
theorem outS_inj {b : Pl} {d e : Fin 4} (h : outS b d = outS b e) : d = e := by
 have h2 := congrArg (·.2) h
 match d, e, h2 with
 | 0, 0, _ => rfl
 | 1, 1, _ => rfl
 | 2, 2, _ => rfl
 | 3, 3, _ => rfl
 | 0, 1, h => simp only [outS, Prod.mk.injEq] at h; omega
 | 0, 2, h => simp only [outS, Prod.mk.injEq] at h; omega
 | 0, 3, h => simp only [outS, Prod.mk.injEq] at h; omega
 | 1, 0, h => simp only [outS, Prod.mk.injEq] at h; omega
 | 1, 2, h => simp only [outS, Prod.mk.injEq] at h; omega
 | 1, 3, h => simp only [outS, Prod.mk.injEq] at h; omega
 | 2, 0, h => simp only [outS, Prod.mk.injEq] at h; omega
 | 2, 1, h => simp only [outS, Prod.mk.injEq] at h; omega
 | 2, 3, h => simp only [outS, Prod.mk.injEq] at h; omega
 | 3, 0, h => simp only [outS, Prod.mk.injEq] at h; omega
 | 3, 1, h => simp only [outS, Prod.mk.injEq] at h; omega
 | 3, 2, h => simp only [outS, Prod.mk.injEq] at h; omega
noncomputable def rtS (s : WStep) : Pl := (s.2.1 + s.2.2 - s.1.2, s.2.2 + s.1.1 - s.2.1)
theorem rt_in (b : Pl) (d : Fin 4) : (b, rtS (inS b d)) = outS b (d + 1) := by
 obtain ⟨x, y⟩ := b
 match d with
 | 0 => show ((x, y), (x + y - (y - 1), y + x - x)) = ((x, y), (x + 1, y)); rw [show x + y - (y - 1) = x + 1 by omega, show y + x - x = y by omega]
 | 1 => show ((x, y), (x + y - y, y + (x - 1) - x)) = ((x, y), (x, y - 1)); rw [show x + y - y = x by omega, show y + (x - 1) - x = y - 1 by omega]
 | 2 => show ((x, y), (x + y - (y + 1), y + x - x)) = ((x, y), (x - 1, y)); rw [show x + y - (y + 1) = x - 1 by omega, show y + x - x = y by omega]
 | 3 => show ((x, y), (x + y - y, y + (x + 1) - x)) = ((x, y), (x, y + 1)); rw [show x + y - y = x by omega, show y + (x + 1) - x = y + 1 by omega]
noncomputable def fromB (ss : List WStep) (b : Pl) : List WStep := ss.filter fun o => decide (o.1 = b)
noncomputable def nxt (ss : List WStep) (s : WStep) : WStep := if (s.2, rtS s) ∈ ss then (s.2, rtS s) else (fromB ss s.2).headD s
theorem only_one {α : Type} {l : List α} {u : α} (hn : l.Nodup) (h : ∀ x ∈ l, x = u) (hu : u ∈ l) : l = [u] := by
 match l, hn, h, hu with
 | [x], _, h, _ => rw [h x List.mem_cons_self]
 | x :: y :: t, hn, h, _ =>
  have e1 := h x List.mem_cons_self
  have e2 := h y (List.mem_cons_of_mem _ List.mem_cons_self)
  rw [e1, e2] at hn
  simp at hn
structure Of (land : List Pl) (ss : List WStep) : Prop where
 mem : ∀ s, s ∈ ss ↔ s ∈ stepsU land
 nd : ss.Nodup
section
variable {land : List Pl} {ss : List WStep}
theorem Of.turn (h : Of land ss) {s : WStep} (hs : s ∈ ss) : ∃ d, s = inS s.2 d ∧ cI land s.2 d = true ∧ ((s.2, rtS s) ∈ ss ↔ cO land s.2 (d + 1) = true) := by
 obtain ⟨d, e, hc⟩ := mem_in ((h.mem s).mp hs)
 refine ⟨d, e, hc, ?_⟩
 have e2 : (s.2, rtS s) = outS s.2 (d + 1) := by
  have := rt_in s.2 d
  rw [← e] at this; exact this
 rw [h.mem, e2]
 constructor
 ·intro z
  obtain ⟨d', e', c'⟩ := mem_out.mp ⟨z, by rw [← e2]⟩
  rw [outS_inj e']; exact c'
 ·intro z
  exact (mem_out.mpr ⟨_, rfl, z⟩).1
theorem Of.one (h : Of land ss) {s : WStep} (hs : s ∈ ss) (hr : (s.2, rtS s) ∉ ss) : ∃ u, fromB ss s.2 = [u] ∧ nxt ss s = u := by
 obtain ⟨d, e, hc, hi⟩ := h.turn hs
 have c0 : cO land s.2 (d + 1) = false := by
  cases z : cO land s.2 (d + 1) with
  | false => rfl
  | true => exact absurd (hi.mpr z) hr
 have hf : fromB ss s.2 = [outS s.2 (nX land s.2 d)] := by
  refine only_one (h.nd.sublist List.filter_sublist) (fun x hx => ?_) ?_
  ·obtain ⟨h1, h2⟩ := List.mem_filter.mp hx
   obtain ⟨e', e1, e2⟩ := mem_out.mp ⟨(h.mem x).mp h1, by simpa using h2⟩
   rw [e1, nx_one _ _ _ _ _ hc c0 _ e2]
  ·have := mem_out.mpr ⟨_, rfl, nx_out _ _ _ _ _ hc⟩
   exact List.mem_filter.mpr ⟨(h.mem _).mpr this.1, by simpa using this.2⟩
 refine ⟨_, hf, ?_⟩
 unfold nxt
 rw [if_neg hr, hf]; rfl
theorem Of.next (h : Of land ss) {s : WStep} (hs : s ∈ ss) : ∃ d, s = inS s.2 d ∧ cI land s.2 d = true ∧ nxt ss s = outS s.2 (nX land s.2 d) := by
 obtain ⟨d, e, hc, hi⟩ := h.turn hs
 refine ⟨d, e, hc, ?_⟩
 have e2 : (s.2, rtS s) = outS s.2 (d + 1) := by
  have := rt_in s.2 d
  rw [← e] at this; exact this
 by_cases z : (s.2, rtS s) ∈ ss
 ·unfold nxt
  rw [if_pos z, e2]
  have := hi.mp z
  show _ = outS s.2 (nx _ _ _ _ d)
  unfold nx
  rw [if_pos this]
 ·obtain ⟨u, h1, h2⟩ := h.one hs z
  have : outS s.2 (nX land s.2 d) ∈ fromB ss s.2 := by
   have := mem_out.mpr ⟨_, rfl, nx_out _ _ _ _ _ hc⟩
   exact List.mem_filter.mpr ⟨(h.mem _).mpr this.1, by simpa using this.2⟩
  rw [h1] at this
  rw [h2, List.mem_singleton.mp this]
theorem Of.nxt_mem (h : Of land ss) {s : WStep} (hs : s ∈ ss) : nxt ss s ∈ ss ∧ (nxt ss s).1 = s.2 := by
 obtain ⟨d, e, hc, hn⟩ := h.next hs
 rw [hn]
 have := mem_out.mpr ⟨_, rfl, nx_out _ _ _ _ _ hc⟩
 exact ⟨(h.mem _).mpr this.1, this.2⟩
theorem Of.nxt_inj (h : Of land ss) {s t : WStep} (hs : s ∈ ss) (ht : t ∈ ss) (e : nxt ss s = nxt ss t) : s = t := by
 have hb : s.2 = t.2 := by rw [← (h.nxt_mem hs).2, ← (h.nxt_mem ht).2, e]
 obtain ⟨d, e1, c1, n1⟩ := h.next hs
 obtain ⟨d', e1', c1', n1'⟩ := h.next ht
 rw [n1, n1', ← hb] at e
 rw [← hb] at c1' e1'
 rw [e1, e1', nx_inj _ _ _ _ _ _ c1 c1' (outS_inj e)]
theorem Of.ne (h : Of land ss) {s : WStep} (hs : s ∈ ss) : s.1 ≠ s.2 := by
 obtain ⟨d, e, _⟩ := mem_in ((h.mem s).mp hs)
 intro z
 rw [e] at z
 obtain ⟨⟨a, b⟩, ⟨x, y⟩⟩ := s
 match d, z with
 | 0, z => simp only [inS, Prod.mk.injEq] at z; omega
 | 1, z => simp only [inS, Prod.mk.injEq] at z; omega
 | 2, z => simp only [inS, Prod.mk.injEq] at z; omega
 | 3, z => simp only [inS, Prod.mk.injEq] at z; omega
end
end Wlk
namespace Cyc
section
variable {α : Type} [DecidableEq α]
noncomputable def it (f : α → α) : Nat → α → α
 | 0, s => s
 | n + 1, s => f (it f n s)
theorem it_add (f : α → α) (s : α) : ∀ n m, it f (n + m) s = it f n (it f m s)
 | 0, m => by rw [Nat.zero_add]; rfl
 | n + 1, m => by
  rw [show n + 1 + m = (n + m) + 1 by omega]
  show f (it f (n + m) s) = f (it f n (it f m s))
  rw [it_add f s n m]
theorem sub_len : ∀ {xs ys : List α}, xs.Nodup → (∀ x ∈ xs, x ∈ ys) → xs.length ≤ ys.length
 | [], _, _, _ => Nat.zero_le _
 | x :: xs, ys, hn, h => by
  have hx := h x List.mem_cons_self
  have hn' := List.nodup_cons.mp hn
  have ih := sub_len (ys := ys.erase x) hn'.2 fun y hy => by
   refine (List.mem_erase_of_ne fun z => ?_).mpr (h y (List.mem_cons_of_mem _ hy))
   subst z; exact hn'.1 hy
  rw [List.length_erase_of_mem hx] at ih
  have := List.length_pos_of_mem hx
  rw [List.length_cons]; omega
theorem least {P : Nat → Prop} : ∀ n, P n → ∃ m, m ≤ n ∧ P m ∧ ∀ k, k < m → ¬ P k := by
 intro n
 induction n using Nat.strongRecOn with
 | ind n ih =>
  intro h
  by_cases z : ∃ k, k < n ∧ P k
  ·obtain ⟨k, hk, hp⟩ := z
   obtain ⟨m, a, b, c⟩ := ih k hk hp
   exact ⟨m, by omega, b, c⟩
  ·exact ⟨n, Nat.le_refl _, h, fun k hk hp => z ⟨k, hk, hp⟩⟩
structure Rnd (l : List α) (f : α → α) : Prop where
 nd : l.Nodup
 mem : ∀ s ∈ l, f s ∈ l
 inj : ∀ s ∈ l, ∀ t ∈ l, f s = f t → s = t
variable {l : List α} {f : α → α}
theorem Rnd.it_mem (R : Rnd l f) {s : α} (hs : s ∈ l) : ∀ n, it f n s ∈ l
 | 0 => hs
 | n + 1 => R.mem _ (R.it_mem hs n)
theorem Rnd.strip (R : Rnd l f) {s : α} (hs : s ∈ l) : ∀ i j, i ≤ j → it f i s = it f j s → it f (j - i) s = s
 | 0, j, _, h => by rw [Nat.sub_zero]; exact h.symm
 | i + 1, 0, h, _ => by omega
 | i + 1, j + 1, h, e => by
  have := R.inj _ (R.it_mem hs i) _ (R.it_mem hs j) e
  rw [show j + 1 - (i + 1) = j - i by omega]
  exact R.strip hs i j (by omega) this
noncomputable def Per (f : α → α) (s : α) (m : Nat) : Prop := 1 ≤ m ∧ it f m s = s ∧ ∀ k, 1 ≤ k → k < m → it f k s ≠ s
theorem Rnd.has_per (R : Rnd l f) {s : α} (hs : s ∈ l) : ∃ m, Per f s m ∧ m ≤ l.length := by
 have key : ∃ n, 1 ≤ n ∧ it f n s = s ∧ n ≤ l.length := by
  apply Classical.byContradiction
  intro no
  have hn : ((List.range (l.length + 1)).map fun i => it f i s).Nodup := by
   rw [List.nodup_iff_pairwise_ne, List.pairwise_map, List.pairwise_iff_getElem]
   intro i j hi hj hij e
   rw [List.length_range] at hi hj
   simp only [List.getElem_range] at e
   exact no ⟨j - i, by omega, R.strip hs i j (by omega) e, by omega⟩
  have := sub_len hn fun x hx => by
   obtain ⟨i, _, rfl⟩ := List.mem_map.mp hx
   exact R.it_mem hs i
  rw [List.length_map, List.length_range] at this
  omega
 obtain ⟨n, h1, h2, h3⟩ := key
 obtain ⟨m, a, b, c⟩ := least (P := fun n => 1 ≤ n ∧ it f n s = s) n ⟨h1, h2⟩
 exact ⟨m, ⟨b.1, b.2, fun k hk hl e => c k hl ⟨hk, e⟩⟩, by omega⟩
open Classical in
noncomputable def per (f : α → α) (s : α) : Nat := if h : ∃ m, Per f s m then h.choose else 0
theorem Rnd.per_is (R : Rnd l f) {s : α} (hs : s ∈ l) : Per f s (per f s) := by
 obtain ⟨m, h, _⟩ := R.has_per hs
 have : ∃ m, Per f s m := ⟨m, h⟩
 unfold per
 rw [dif_pos this]; exact this.choose_spec
noncomputable def orb (f : α → α) (s : α) : List α := (List.range (per f s)).map fun i => it f i s
theorem mem_orb {s x : α} : x ∈ orb f s ↔ ∃ i, i < per f s ∧ it f i s = x := by
 unfold orb
 rw [List.mem_map]
 constructor
 ·rintro ⟨i, hi, e⟩; exact ⟨i, List.mem_range.mp hi, e⟩
 ·rintro ⟨i, hi, e⟩; exact ⟨i, List.mem_range.mpr hi, e⟩
theorem Rnd.orb_self (R : Rnd l f) {s : α} (hs : s ∈ l) : s ∈ orb f s := mem_orb.mpr ⟨0, (R.per_is hs).1, rfl⟩
theorem Rnd.orb_sub (R : Rnd l f) {s : α} (hs : s ∈ l) : ∀ x ∈ orb f s, x ∈ l := fun x hx => by
 obtain ⟨i, _, rfl⟩ := mem_orb.mp hx
 exact R.it_mem hs i
theorem Rnd.orb_nd (R : Rnd l f) {s : α} (hs : s ∈ l) : (orb f s).Nodup := by
 have p := R.per_is hs
 unfold orb
 rw [List.nodup_iff_pairwise_ne, List.pairwise_map, List.pairwise_iff_getElem]
 intro i j hi hj hij e
 rw [List.length_range] at hi hj
 simp only [List.getElem_range] at e
 exact p.2.2 (j - i) (by omega) (by omega) (R.strip hs i j (by omega) e)
theorem Rnd.orb_cl (R : Rnd l f) {s : α} (hs : s ∈ l) : ∀ x ∈ orb f s, f x ∈ orb f s := fun x hx => by
 obtain ⟨i, hi, rfl⟩ := mem_orb.mp hx
 have p := R.per_is hs
 by_cases z : i + 1 < per f s
 ·exact mem_orb.mpr ⟨i + 1, z, rfl⟩
 ·refine mem_orb.mpr ⟨0, p.1, ?_⟩
  have e : i + 1 = per f s := by omega
  show s = it f (i + 1) s
  rw [e, p.2.1]
theorem orb_len (s : α) : (orb f s).length = per f s := by unfold orb; rw [List.length_map, List.length_range]
theorem orb_take (s : α) (k : Nat) (h : k < per f s) : (orb f s).take (k + 1) = (orb f s).take k ++ [it f k s] := by
 rw [List.take_succ]
 congr 1
 unfold orb
 rw [List.getElem?_map, List.getElem?_range h]; rfl
noncomputable def stF (o : α → List α) (wd : List (List α) × List α) (s : α) : List (List α) × List α := if s ∈ wd.2 then wd else (wd.1 ++ [o s], wd.2 ++ o s)
structure Got (l : List α) (f : α → α) (p : List α) (wd : List (List α) × List α) : Prop where
 all : ∀ s ∈ p, s ∈ wd.2
 sub : ∀ s ∈ wd.2, s ∈ l
 cl : ∀ s ∈ wd.2, f s ∈ wd.2
 nd : wd.2.Nodup
 fl : wd.2 = wd.1.flatten
 hd : ∃ ts : List α, ts.Sublist p ∧ wd.1 = ts.map (orb f)
theorem Got.nil : Got l f [] ([], []) := ⟨fun _ h => (List.not_mem_nil h).elim, fun _ h => (List.not_mem_nil h).elim, fun _ h => (List.not_mem_nil h).elim, .nil, rfl, [], List.Sublist.slnil, rfl⟩
theorem Got.it (G : Got l f p wd) {s : α} (h : s ∈ wd.2) : ∀ n, it f n s ∈ wd.2
 | 0 => h
 | n + 1 => G.cl _ (Got.it G h n)
theorem Got.out (R : Rnd l f) {p : List α} {wd : List (List α) × List α} (G : Got l f p wd) {s : α} (hs : s ∈ l) (h : s ∉ wd.2) : ∀ x ∈ orb f s, x ∉ wd.2 := fun x hx hd => by
 obtain ⟨i, hi, rfl⟩ := mem_orb.mp hx
 have p' := R.per_is hs
 have := G.it hd (per f s - i)
 rw [← it_add, show per f s - i + i = per f s by omega, p'.2.1] at this
 exact h this
theorem Got.step (R : Rnd l f) {p : List α} {wd : List (List α) × List α} (G : Got l f p wd) {s : α} (hs : s ∈ l) : Got l f (p ++ [s]) (stF (orb f) wd s) := by
 unfold stF
 by_cases z : s ∈ wd.2
 ·rw [if_pos z]
  obtain ⟨ts, h1, h2⟩ := G.hd
  refine ⟨fun x hx => ?_, G.sub, G.cl, G.nd, G.fl, ts, h1.trans (List.sublist_append_left _ _), h2⟩
  rcases List.mem_append.mp hx with y | y
  ·exact G.all x y
  ·rw [List.mem_singleton.mp y]; exact z
 ·rw [if_neg z]
  obtain ⟨ts, h1, h2⟩ := G.hd
  refine ⟨fun x hx => ?_, fun x hx => ?_, fun x hx => ?_, ?_, ?_, ts ++ [s], List.Sublist.append h1 (List.Sublist.refl _), ?_⟩
  ·rcases List.mem_append.mp hx with y | y
   ·exact List.mem_append_left _ (G.all x y)
   ·rw [List.mem_singleton.mp y]; exact List.mem_append_right _ (R.orb_self hs)
  ·rcases List.mem_append.mp hx with y | y
   ·exact G.sub x y
   ·exact R.orb_sub hs x y
  ·rcases List.mem_append.mp hx with y | y
   ·exact List.mem_append_left _ (G.cl x y)
   ·exact List.mem_append_right _ (R.orb_cl hs x y)
  ·rw [List.nodup_append]
   refine ⟨G.nd, R.orb_nd hs, fun a ha b hb e => ?_⟩
   subst e
   exact G.out R hs z a hb ha
  ·dsimp only
   rw [List.flatten_append, ← G.fl]; simp
  ·dsimp only
   rw [h2, List.map_append]; rfl
theorem Got.fold (R : Rnd l f) : ∀ (r p : List α) (wd : List (List α) × List α), Got l f p wd → (∀ x ∈ r, x ∈ l) → Got l f (p ++ r) (r.foldl (stF (orb f)) wd)
 | [], p, wd, G, _ => by rw [List.append_nil]; exact G
 | s :: r, p, wd, G, h => by
  have := Got.fold R r (p ++ [s]) _ (G.step R (h s List.mem_cons_self)) fun x hx => h x (List.mem_cons_of_mem _ hx)
  rw [List.append_assoc] at this
  exact this
theorem got_all (R : Rnd l f) : Got l f l (l.foldl (stF (orb f)) ([], [])) := by
 have := Got.fold R l [] ([], []) Got.nil fun x hx => hx
 simpa using this
theorem sum_len (R : Rnd l f) : (((l.foldl (stF (orb f)) ([], [])).1).map List.length).sum = l.length := by
 have G := got_all R
 have h1 := sub_len G.nd G.sub
 have h2 := sub_len R.nd G.all
 rw [← List.length_flatten, ← G.fl]; omega
end
end Cyc
namespace Srt
open PySem PySem.W PyProof.Rows L2
noncomputable def fl : List (Int × Int) → List Int
 | [] => []
 | c :: cs => c.1 :: c.2 :: fl cs
theorem fl_inj : ∀ {a b : List (Int × Int)}, fl a = fl b → a = b
 | [], [], _ => rfl
 | [], _ :: _, h => by cases h
 | _ :: _, [], h => by cases h
 | c :: a, d :: b, h => by
  injection h with h1 h2
  injection h2 with h2 h3
  rw [fl_inj h3, Prod.ext h1 h2]
theorem out_gen {β : Type} {zs : List β} (z0 : β) (key : β → List Int) {p : Array Nat} (hp : Pm zs.length p) (hu : Up (fun i => rank (zs.map key) (key (zs.getD i z0))) p zs.length) :
  (p.toList.map fun i => zs.getD i z0).Perm zs ∧ (p.toList.map fun i => zs.getD i z0).Pairwise fun a b => HT.lexLt (key b) (key a) = false := by
 have hperm := Array.perm_iff_toList_perm.mp hp
 have inz : ∀ k (hk : k < p.toList.length), p.toList[k] < zs.length := fun k hk => by
  have := hperm.mem_iff.mp (List.getElem_mem hk)
  simpa using this
 refine ⟨(hperm.map fun i => zs.getD i z0).trans (List.Perm.of_eq (List.ext_getElem (by simp) fun i a b => by simp [b])), ?_⟩
 rw [List.pairwise_map, List.pairwise_iff_getElem]
 intro i j hi hj hij
 have hsz : p.toList.length = zs.length := by rw [Array.length_toList, hp.size]
 have h1 := hu i j (by omega) (by omega)
 have mem : ∀ k (hk : k < p.toList.length), key (zs.getD (p.toList[k]'hk) z0) ∈ zs.map key := fun k hk => by
  have e : zs.getD p.toList[k] z0 = zs[p.toList[k]]'(inz k hk) := by rw [List.getD_eq_getElem?_getD, List.getElem?_eq_getElem (inz k hk)]; rfl
  rw [e]
  exact List.mem_map_of_mem (List.getElem_mem _)
 have e : ∀ k (hk : k < p.toList.length), at' p k = p.toList[k] := fun k hk => by
  have : k < p.size := by simpa using hk
  unfold at'; simp [Array.getD, this]
 unfold R at h1
 rw [e i hi, e j hj] at h1
 rw [← rank_lt (mem j hj) (mem i hi), decide_eq_false_iff_not]
 exact Int.not_lt.mpr h1
end Srt
namespace L2
open PySem PySem.Spec PyProof.Rows Srt
noncomputable def SqA (H : Hp) (a : Addr) (cs : List (Int × Int)) : Prop := ∃ ps : List Addr, H a = some (.tup (ps.map V.ref)) ∧ PlAt H ps cs
theorem SqA.same {H H' : Hp} {a : Addr} {cs : List (Int × Int)} (h : SqA H a cs) (s : Same H H') : SqA H' a cs := let ⟨ps, h1, h2⟩ := h; ⟨ps, s _ _ h1, h2.same s⟩
noncomputable def SortedP (zs zs' : List (Addr × List (Int × Int))) : Prop := zs'.Perm zs ∧ zs'.Pairwise fun a b => HT.lexLt (fl b.2) (fl a.2) = false
section
variable {X : Cx}
theorem lexP_same {pins : List (Addr × Obj)} {σ : St} {H : Hp} {A : Around} {C : Bool → Shared → Prop} {s : Shared} (I : Inv X pins σ H s) (hu : A.units < cLine) : ∀ {ps qs : List Addr} {cs ds : List (Int × Int)} (i : Nat), PlAt H ps cs → PlAt H qs ds → C (HT.lexLt (fl cs) (fl ds)) s →
  PySem.W.KatLex X.prog X.w A false (decide (ps.length < qs.length)) C ((ps.map Value.ref).zip (qs.map Value.ref)) i s
 | [], [], [], [], i, .nil, .nil, h => by
  show C (decide (0 < 0)) s
  exact h
 | [], q :: qs, [], d :: ds, i, .nil, .cons _ _, h => by
  show C (decide (0 < qs.length + 1)) s
  rw [decide_eq_true (by omega)]; exact h
 | p :: ps, [], c :: cs, [], i, .cons _ _, .nil, h => by
  show C (decide (ps.length + 1 < 0)) s
  rw [decide_eq_false (by omega)]; exact h
 | p :: ps, q :: qs, c :: cs, d :: ds, i, .cons r1 t1, .cons r2 t2, h => by
  show PySem.W.KatLex X.prog X.w A false (decide (ps.length + 1 < qs.length + 1)) C ((Value.ref p, Value.ref q) :: (ps.map Value.ref).zip (qs.map Value.ref)) i s
  refine PySem.W.kat_cons (eq_place I hu r1 r2 X.prog X.w _ _ ?_)
  have e0 : HT.lexLt (fl (c :: cs)) (fl (d :: ds)) = if c = d then HT.lexLt (fl cs) (fl ds) else HT.lexLt [c.1, c.2] [d.1, d.2] := by
   obtain ⟨c1, c2⟩ := c
   obtain ⟨d1, d2⟩ := d
   show HT.lexLt (c1 :: c2 :: fl cs) (d1 :: d2 :: fl ds) = _
   rw [HT.lexLt_cons, HT.lexLt_cons, HT.lexLt_cons, HT.lexLt_cons]
   by_cases e1 : c1 = d1
   ·subst e1
    by_cases e2 : c2 = d2
    ·subst e2; simp
    ·simp [e2]
   ·simp [e1]
  rw [e0] at h
  by_cases e : c = d
  ·rw [decide_eq_true e]
   rw [if_pos e] at h
   refine PySem.W.kat_yes ?_
   rw [show decide (ps.length + 1 < qs.length + 1) = decide (ps.length < qs.length) by simp]
   exact lexP_same I hu (i + 1) t1 t2 h
  ·rw [decide_eq_false e]
   rw [if_neg e] at h
   refine PySem.W.kat_no (PySem.W.kat_one _ _ ?_)
   obtain ⟨its, s1, p1, _⟩ := I.tuple (SqT.of (K := X.K) r1)
   obtain ⟨its2, s2, p2, _⟩ := I.tuple (SqT.of (K := X.K) r2)
   have i1 : IntsAre its.toArray.toList [c.1, c.2] := intsAre_of s1
   have i2 : IntsAre its2.toArray.toList [d.1, d.2] := intsAre_of s2
   exact HT.lt_tupInts p1 p2 i1 i2 hu h
theorem call_sortedP (hu : X.A.units + 2 < cLine) : CallR X (.builtin "sorted") (fun xs H Q => ∃ (p : Addr) (zs : List (Addr × List (Int × Int))), xs = [.ref p] ∧ H p = some (.lst (zs.map fun z => V.ref z.1)) ∧ (∀ z ∈ zs, SqA H z.1 z.2 ∧ z.2 ≠ []) ∧ zs.length < 64 ∧
  ∀ l zs', H l = none → SortedP zs zs' → Q (.ref l) (upd H l (.lst (zs'.map fun z => V.ref z.1)))) := by
 intro pins s σ H xs us Q I r h
 obtain ⟨p, zs, rfl, hq, hz, h64, q⟩ := h
 obtain ⟨u, rfl, rx⟩ := vals1 r
 cases rx
 obtain ⟨its, rv, pl, _⟩ := I.list (SqL.of (K := X.K) hq)
 have hits : its = zs.map fun z => Value.ref z.1 := by
  have := refs_of (as := zs.map (·.1)) (us := its) (by rw [List.map_map]; exact rv)
  rw [this, List.map_map]; rfl
 subst hits
 have isl := pl.isList
 have gd : ∀ i, i < zs.length → (zs.map fun z => Value.ref z.1).getD i Value.none = .ref (zs.getD i (0, [])).1 ∧ zs.getD i (0, []) ∈ zs := fun i hi => by
  constructor
  ·simp [hi]
  ·rw [show zs.getD i (0, []) = zs[i] by simp [hi]]; exact List.getElem_mem _
 refine sorted_raw (κ := tuples' false) (r := fun i => rank (zs.map fun z => fl z.2) (fl (zs.getD i (0, [])).2)) (vs := zs.map fun z => Value.ref z.1) (by rw [List.length_map]; exact h64) (fun Q' k => ?_) (fun h1 tk k1 h2 => ⟨fun Q2 q2 => ?_, fun i j C hi hj hC => ?_⟩) fun D h' tk c pp hD hp hu' o' k' => ?_
 ·refine collect_list isl ?_ (by rw [List.length_map, sizeLine_eq]; omega)
  refine k _ s.toks (fun b o e => ?_) (by rw [Heap.size_update, size_push']; exact Nat.le_succ _)
  rw [Heap.get?_update_ne _ _ _ _ (Nat.ne_of_lt (Heap.lt_size e))]
  exact Heap.get?_push_of_some _ e
 ·have I1 : Inv X pins σ H { s with heap := h1, toks := tk } := I.kept k1
  have key : ∀ ys : List (Addr × List (Int × Int)), (∀ z ∈ ys, z ∈ zs) → ∃ fs : List Value, PySem.W.KatTups h1 (ys.map fun z => Value.ref z.1) fs ∧ fs.length = ys.length ∧ ∀ v ∈ fs, ∃ a o, v = .ref a ∧ h1.get? a = some o ∧ o.cls = .type "tuple" := fun ys => by
   induction ys with
   | nil => intro _; exact ⟨[], trivial, rfl, fun v hv => by cases hv⟩
   | cons z ys ih =>
    intro hm
    obtain ⟨fs, g1, g2, g3⟩ := ih fun y hy => hm y (List.mem_cons_of_mem _ hy)
    obtain ⟨⟨ps, hz1, hP⟩, hne⟩ := hz z (hm z List.mem_cons_self)
    obtain ⟨cs0, cs1, ec⟩ := List.exists_cons_of_ne_nil hne
    rw [ec] at hP
    cases hP with
    | cons r0 t0 =>
     rename_i p0 ps0
     obtain ⟨_, it, rt, o, ho, hc, n, hd⟩ := (show ObjOk X.prog X.w H h1 z.1 (.tup _) from I1.hok _ _ hz1)
     obtain ⟨_, it2, rt2, o2, ho2, hc2, _⟩ := (show ObjOk X.prog X.w H h1 p0 (.tup _) from I1.hok _ _ r0)
     have ei := refs_of rt
     subst ei
     exact ⟨.ref p0 :: fs, PySem.W.KatTups.cons ho hc hd (by simp) g1, by simp [g2], fun v hv => by
      rcases List.mem_cons.mp hv with e | e
      ·exact ⟨p0, o2, e, ho2, hc2⟩
      ·exact g3 v e⟩
  obtain ⟨fs, g1, g2, g3⟩ := key zs fun z hz => hz
  rw [List.length_map] at h2
  refine PySem.W.kat_kind (T := .type "tuple") (s := { s with heap := h1, toks := tk }) g1 (by omega) (fun v hv => ?_) rfl q2
  obtain ⟨a, o, rfl, ho, hc⟩ := g3 v hv
  have lk : PySem.W.Looks (model X.prog X.w) h1 (typeOf (.ref a)) o.cls := (PySem.W.Looks.ld ho).andThen .now
  rw [hc] at lk
  exact lk
 ·rw [List.length_map] at hi hj
  obtain ⟨ei, mi⟩ := gd i hi
  obtain ⟨ej, mj⟩ := gd j hj
  show wpAny _ _ (keyLt' (tuples' false) ((zs.map fun z => Value.ref z.1).getD i Value.none) ((zs.map fun z => Value.ref z.1).getD j Value.none)) C (fun _ _ => False) _
  rw [ei, ej]
  have I1 : Inv X pins σ H { s with heap := h1, toks := tk } := I.kept k1
  obtain ⟨⟨ps, hz1, hP⟩, _⟩ := hz _ mi
  obtain ⟨⟨qs, hz2, hP2⟩, _⟩ := hz _ mj
  obtain ⟨_, it, rt, o, ho, hc, n, hd⟩ := (show ObjOk X.prog X.w H h1 _ (.tup _) from I1.hok _ _ hz1)
  obtain ⟨_, it2, rt2, o2, ho2, hc2, n2, hd2⟩ := (show ObjOk X.prog X.w H h1 _ (.tup _) from I1.hok _ _ hz2)
  have e1 := refs_of rt
  have e2 := refs_of rt2
  subst e1 e2
  rw [rank_lt (List.mem_map.mpr ⟨_, mi, rfl⟩) (List.mem_map.mpr ⟨_, mj, rfl⟩)] at hC
  refine PySem.W.kat_lt (s := { s with heap := h1, toks := tk }) ho hd ho2 hd2 ?_
  rw [List.size_toArray, List.size_toArray, List.length_map, List.length_map]
  exact lexP_same I1 (show X.A.units + 1 + 1 < cLine by omega) 0 hP hP2 hC
 ·rw [List.length_map] at hp hu'
  have so := out_gen (0, []) (fun z : Addr × List (Int × Int) => fl z.2) hp hu'
  have eo : (pp.toList.map fun i => (zs.map fun z => Value.ref z.1).getD i Value.none) = (pp.toList.map fun i => zs.getD i (0, [])).map fun z => Value.ref z.1 := by
   rw [List.map_map]
   refine List.map_congr_left fun i hi => ?_
   have : i < zs.length := by
    have := (Array.perm_iff_toList_perm.mp hp).mem_iff.mp hi
    simpa using this
   exact (gd i this).1
  rw [eo] at o'
  have hlen := so.1.length_eq
  have vf : ∀ zs : List (Addr × List (Int × Int)), Vals (zs.map fun z => V.ref z.1) (zs.map fun z => Value.ref z.1) := fun zs => by
   induction zs with
   | nil => exact .nil
   | cons z zs ih => exact .cons rfl ih
  refine ⟨.ref D, _, I.laid (t' := tk) (o := .lst ((pp.toList.map fun i => zs.getD i (0, [])).map fun z => V.ref z.1)) k' hD ⟨by rw [List.length_map, hlen, sizeLine_eq]; omega, _, c, vf _, o'⟩, rfl, q _ _ (I.hok.fresh hD) so⟩
end
end L2
namespace PySem
section
variable {prog : Program} {w : World} {A : Around} {E : Value → Shared → Prop} {s : Shared}
end
end PySem
namespace L2
open PySem PySem.Spec PyProof.Rows
section
variable {X : Cx}
end
end L2
namespace Set4
open PySem PyProof.Rows
noncomputable def L (b0 b1 b2 b3 : Bool) : List Nat := (cond b0 [0] []) ++ ((cond b1 [1] []) ++ ((cond b2 [2] []) ++ (cond b3 [3] [])))
noncomputable def mem4 (S : Nat → Bool) : List Nat := L (S 0) (S 1) (S 2) (S 3)
noncomputable def plus (S : Nat → Bool) (k : Nat) : Nat → Bool := fun j => S j || decide (j = k)
section
variable {prog : Program} {w : World} {A : Around} {E : Value → Shared → Prop} {s : Shared}
end
end Set4
namespace Set4
open PySem PyProof.Rows
noncomputable def acc (val : Nat → Nat) : Nat → Nat → Bool
 | 0 => fun _ => false
 | i + 1 => plus (acc val i) (val i)
section
variable {prog : Program} {w : World} {A : Around} {R : Result → Shared → Prop} {I : Addr} {fp wr : List Addr} {G : Array GenState → Array GenState → Prop} {n : Nat} {P : Nat → Value → Prop} {St : Nat → Shared → Prop} {led : Bool}
end
section
variable {prog : Program} {w : World} {A : Around} {E : Value → Shared → Prop} {s : Shared}
end
end Set4
namespace Set4
open PySem PyProof.Rows
noncomputable def slot (S : Nat → Bool) (i : Nat) : Nat := if i = 0 then 0 else (mem4 S).getD (i - 1) 0 + 1
section
variable {prog : Program} {w : World} {A : Around} {E : Value → Shared → Prop} {s : Shared}
end
end Set4
namespace Set4
open PySem PyProof.Rows
section
variable {prog : Program} {w : World} {A : Around} {E : Value → Shared → Prop} {s : Shared}
end
end Set4
namespace Set4
open PySem PyProof.Rows
section
variable {prog : Program} {w : World} {A : Around} {E : Value → Shared → Prop} {s : Shared}
end
end Set4
namespace L2
open PySem PySem.Spec PyProof.Rows Srt Set4
section
variable {X : Cx}
end
end L2
namespace L2
open PySem PySem.Spec PyProof.Rows
end L2
namespace L2
open PySem PySem.W PySem.Calls PyProof.Rows Builtin Builtin.ObjectAttr Builtin.Getset_descriptor
section
variable {prog : Program} {w : World} {A : Around} {E : Value → Shared → Prop} {K : PySem.W.Frag} {x D : Addr}
end
end L2
namespace L2
open PySem PySem.Spec PyProof.Rows
theorem PI.or {X : Cx} {tg iter : Expr} {w1 w2 : TI} (h1 : PI X tg iter w1) (h2 : PI X tg iter w2) : PI X tg iter (fun σ H R => w1 σ H R ∨ w2 σ H R) := by
 intro pins s σ H R I h
 rcases h with h | h
 ·exact h1 pins s σ H R I h
 ·exact h2 pins s σ H R I h
end L2
namespace L2
open PySem PySem.Spec PyProof.Rows
noncomputable def Wk (J : It) (xs : List V) (S : Hp → Prop) : Prop := ∀ {g : TG} {tb : TS} {D : Ends} {σ : St} {H : Hp} (Pv : Nat → St → Hp → Prop), Pv 0 σ H → (∀ i σ H, i ≤ xs.length → Pv i σ H → S H) →
 (∀ i x σ H, xs[i]? = some x → Pv i σ H → g x σ H fun σ2 H2 => tb { D with nx := Pv (i + 1), ct := Pv (i + 1), bk := D.nx } σ2 H2) → (∀ σ H, Pv xs.length σ H → D.nx σ H) → tForJ J g tb D σ H
theorem wk_list {K : PySem.W.Frag} {a : Addr} {xs : List V} : Wk (Itl K a) xs fun H => SqL K H a xs := fun Pv h0 hl hs hd => for_list Pv h0 hl hs hd
end L2
namespace L2
open PySem PySem.Spec PyProof.Rows
noncomputable def E3 (R : V → V → Bool → Prop) : List V → List V → List Bool → Prop
 | [], [], [] => True
 | x :: xs, y :: ys, k :: ks => R x y k ∧ E3 R xs ys ks
 | _, _, _ => False
noncomputable def EqF (a b : V) (k : Bool) : Prop := (∃ i j, a = .int i ∧ b = .int j ∧ k = decide (i = j)) ∨ ∃ x y, a = .str x ∧ b = .str y ∧ k = decide (x = y)
noncomputable def EqD (H : Hp) : Nat → V → V → Bool → Prop
 | 0, a, b, k => EqF a b k
 | n + 1, a, b, k => EqF a b k ∨ ∃ p q xs ys ks, a = .ref p ∧ b = .ref q ∧ ((H p = some (.tup xs) ∧ H q = some (.tup ys)) ∨ (H p = some (.lst xs) ∧ H q = some (.lst ys))) ∧ E3 (EqD H n) xs ys ks ∧ k = ks.all id
theorem E3.len {R : V → V → Bool → Prop} : ∀ {xs ys : List V} {ks : List Bool}, E3 R xs ys ks → xs.length = ys.length ∧ xs.length = ks.length
 | [], [], [], _ => ⟨rfl, rfl⟩
 | x :: xs, y :: ys, k :: ks, h => by
  have := E3.len h.2
  simp only [List.length_cons]; omega
 | [], [], _ :: _, h => h.elim
 | [], _ :: _, _, h => h.elim
 | _ :: _, [], _, h => h.elim
 | _ :: _, _ :: _, [], h => h.elim
theorem E3.get {R : V → V → Bool → Prop} : ∀ {xs ys : List V} {ks : List Bool} {i : Nat} {x y : V}, E3 R xs ys ks → xs[i]? = some x → ys[i]? = some y → ∃ k, ks[i]? = some k ∧ R x y k
 | x :: xs, y :: ys, k :: ks, 0, _, _, h, h1, h2 => by cases h1; cases h2; exact ⟨k, rfl, h.1⟩
 | x :: xs, y :: ys, k :: ks, i + 1, _, _, h, h1, h2 => E3.get (i := i) h.2 (by simpa using h1) (by simpa using h2)
 | [], _, _, _, _, _, _, h1, _ => by simp at h1
 | _ :: _, [], _, _, _, _, h, _, _ => h.elim
 | _ :: _, _ :: _, [], _, _, _, h, _, _ => h.elim
theorem EqF.refl_true {a : V} {k : Bool} (h : EqF a a k) : k = true := by
 rcases h with ⟨i, j, h1, h2, h3⟩ | ⟨x, y, h1, h2, h3⟩
 ·rw [h1] at h2; rw [h3, V.int.inj h2]; simp
 ·rw [h1] at h2; rw [h3, V.str.inj h2]; simp
theorem EqD.refl_true {H : Hp} : ∀ {n : Nat} {a : V} {k : Bool}, EqD H n a a k → k = true
 | 0, a, k, h => EqF.refl_true h
 | n + 1, a, k, h => by
  rcases h with h | ⟨p, q, xs, ys, ks, h1, h2, h3, h4, h5⟩
  ·exact EqF.refl_true h
  ·rw [h1] at h2
   cases h2
   have e : xs = ys := by
    rcases h3 with ⟨u, v⟩ | ⟨u, v⟩
    ·rw [u] at v; cases v; rfl
    ·rw [u] at v; cases v; rfl
   subst e
   rw [h5, List.all_eq_true]
   have go : ∀ {xs : List V} {ks : List Bool}, E3 (EqD H n) xs xs ks → ∀ k ∈ ks, id k = true := fun {xs ks} => by
    induction xs generalizing ks with
    | nil => intro h k hk; cases ks with | nil => cases hk | cons _ _ => exact h.elim
    | cons x xs ih =>
     intro h k hk
     cases ks with
     | nil => cases hk
     | cons k0 ks =>
      rcases List.mem_cons.mp hk with z | z
      ·rw [z]; exact EqD.refl_true h.1
      ·exact ih h.2 k z
   exact go h4
theorem EqD.int {H : Hp} (n : Nat) (i j : Int) : EqD H n (.int i) (.int j) (decide (i = j)) := by
 cases n with
 | zero => exact .inl ⟨i, j, rfl, rfl, rfl⟩
 | succ n => exact .inl (.inl ⟨i, j, rfl, rfl, rfl⟩)
section
variable {X : Cx} {pins : List (Addr × Obj)} {σ : St} {H : Hp} {s : Shared}
theorem all_range (ks : List Bool) : (List.range ks.length).all (fun j => ks.getD j true) = ks.all id := by
 rw [Bool.eq_iff_iff, List.all_eq_true, List.all_eq_true]
 constructor
 ·intro h k hk
  obtain ⟨j, hj, e⟩ := List.getElem_of_mem hk
  have := h j (by simpa using hj)
  rw [show ks.getD j true = ks[j] by simp [hj], e] at this
  exact this
 ·intro h j hj
  have hj' : j < ks.length := by simpa using hj
  rw [show ks.getD j true = ks[j] by simp [hj']]
  exact h _ (List.getElem_mem _)
theorem items_eq {A : Around} {n : Nat} {xs ys : List V} {us ws : List Value} {ks : List Bool} (ih : ∀ {a b : V} {k : Bool} {u v : Value}, EqD H n a b k → RelV a u → RelV b v → SeqAt.EqAt A s u v k) (h4 : E3 (EqD H n) xs ys ks) (r1 : Vals xs us) (r2 : Vals ys ws) :
  ∀ j (h1 : j < us.toArray.size) (h2 : j < ws.toArray.size), SeqAt.EqAt A s us.toArray[j] ws.toArray[j] (ks.getD j true) := fun j h1 h2 => by
 have hl := h4.len
 have l1 := r1.length
 have l2 := r2.length
 rw [List.size_toArray] at h1 h2
 have j1 : j < xs.length := by omega
 have j2 : j < ys.length := by omega
 obtain ⟨u, hu, ru⟩ := r1.get (List.getElem?_eq_getElem j1)
 obtain ⟨v, hv, rv⟩ := r2.get (List.getElem?_eq_getElem j2)
 obtain ⟨k, hk, e⟩ := h4.get (List.getElem?_eq_getElem j1) (List.getElem?_eq_getElem j2)
 have eu : us.toArray[j] = u := by
  have := (List.getElem?_eq_some_iff.mp hu).2
  simpa using this
 have ev : ws.toArray[j] = v := by
  have := (List.getElem?_eq_some_iff.mp hv).2
  simpa using this
 rw [eu, ev, show ks.getD j true = k by rw [List.getD_eq_getElem?_getD, hk]; rfl]
 exact ih e ru rv
theorem rc_seq {A : Around} {n : Nat} {p q : Addr} {xs ys : List V} {ks : List Bool} (I : Inv X pins σ H s) (hu : A.units < cLine) (ih : ∀ {a b : V} {k : Bool} {u v : Value}, EqD H n a b k → RelV a u → RelV b v → SeqAt.EqAt A.in1 s u v k)
  (h3 : (H p = some (.tup xs) ∧ H q = some (.tup ys)) ∨ (H p = some (.lst xs) ∧ H q = some (.lst ys))) (h4 : E3 (EqD H n) xs ys ks) : SeqAt.RcAt A s (.ref p) (.ref q) (ks.all id) ∧ SeqAt.RcNeAt A s (.ref p) (.ref q) (!ks.all id) := by
 have hl := h4.len
 rcases h3 with ⟨hp, hq⟩ | ⟨hp, hq⟩
 ·obtain ⟨us, r1, p1, _⟩ := I.tuple (SqT.of hp)
  obtain ⟨ws, r2, p2, _⟩ := I.tuple (SqT.of hq)
  have l1 := r1.length
  have l2 := r2.length
  have e : ((List.range (min us.toArray.size ws.toArray.size)).all (fun j => ks.getD j true) && us.toArray.size == ws.toArray.size) = ks.all id := by
   rw [List.size_toArray, List.size_toArray, show min us.length ws.length = ks.length by omega, all_range, show us.length = ws.length by omega]
   simp
  have k1 := SeqAt.RcAt.tuples p1 p2 hu (items_eq ih h4 r1 r2)
  have k2 := SeqAt.RcNeAt.tuples p1 p2 hu (items_eq ih h4 r1 r2)
  rw [e] at k1 k2
  exact ⟨k1, k2⟩
 ·obtain ⟨us, r1, p1, _⟩ := I.list (SqL.of hp)
  obtain ⟨ws, r2, p2, _⟩ := I.list (SqL.of hq)
  have l1 := r1.length
  have l2 := r2.length
  have e : (List.range us.toArray.size).all (fun j => ks.getD j true) = ks.all id := by rw [List.size_toArray, show us.length = ks.length by omega, all_range]
  have hz : us.toArray.size = ws.toArray.size := by rw [List.size_toArray, List.size_toArray]; omega
  have k1 := SeqAt.RcAt.lists p1.isList p2.isList hz hu (items_eq ih h4 r1 r2)
  have k2 := SeqAt.RcNeAt.lists p1.isList p2.isList hz hu (items_eq ih h4 r1 r2)
  rw [e] at k1 k2
  exact ⟨k1, k2⟩
theorem eqD_at (I : Inv X pins σ H s) : ∀ {n : Nat} {A : Around} {a b : V} {k : Bool} {u v : Value}, A.units + n < cLine → EqD H n a b k → RelV a u → RelV b v → SeqAt.EqAt A s u v k := by
 have flat : ∀ {A : Around} {a b : V} {k : Bool} {u v : Value}, EqF a b k → RelV a u → RelV b v → SeqAt.EqAt A s u v k := fun {A a b k u v} h ra rb => by
  rcases h with ⟨i, j, rfl, rfl, rfl⟩ | ⟨x, y, rfl, rfl, rfl⟩
  ·obtain ⟨t, rfl⟩ := ra
   obtain ⟨t', rfl⟩ := rb
   have := SeqAt.EqAt.int_int (A := A) (s := s) i t j t'
   rwa [show (i == j) = decide (i = j) by rw [Bool.eq_iff_iff]; simp] at this
  ·obtain ⟨t, rfl⟩ := ra
   obtain ⟨t', rfl⟩ := rb
   have := SeqAt.EqAt.str_str (A := A) (s := s) x t y t'
   rwa [show (x == y) = decide (x = y) by rw [Bool.eq_iff_iff]; simp] at this
 intro n
 induction n with
 | zero => intro A a b k u v _ h ra rb; exact flat h ra rb
 | succ n ih =>
  intro A a b k u v hu h ra rb
  rcases h with h | ⟨p, q, xs, ys, ks, rfl, rfl, h3, h4, rfl⟩
  ·exact flat h ra rb
  ·cases ra
   cases rb
   by_cases hpq : p = q
   ·subst hpq
    have : (ks.all id) = true := EqD.refl_true (n := n + 1) (H := H) (a := .ref p) (.inr ⟨p, p, xs, ys, ks, rfl, rfl, h3, h4, rfl⟩)
    rw [this]
    exact SeqAt.EqAt.same _
   ·exact SeqAt.EqAt.of_refs hpq (rc_seq I (by omega) (fun e r1 r2 => ih (show A.in1.units + n < cLine by show A.units + 1 + n < cLine; omega) e r1 r2) h3 h4).1
end
section
variable {X : Cx}
noncomputable def rSeqD (n : Nat) (g : Bool → Bool) : R2 := fun x y H Q => ∃ p q xs ys ks, x = .ref p ∧ y = .ref q ∧ ((H p = some (.tup xs) ∧ H q = some (.tup ys)) ∨ (H p = some (.lst xs) ∧ H q = some (.lst ys))) ∧ E3 (EqD H n) xs ys ks ∧ Q (.bl (g (ks.all id))) H
theorem op_eqD (n : Nat) (hu : X.A.units + n + 1 < cLine) : OpR X (compareOp .Eq) (rSeqD n id) := by
 intro pins s σ H x y v u Q I rx ry h
 obtain ⟨p, q, xs, ys, ks, rfl, rfl, h3, h4, hq⟩ := h
 cases rx
 cases ry
 exact (rc_seq I (by omega) (fun e r1 r2 => eqD_at I (show X.A.in1.units + n < cLine by show X.A.units + 1 + n < cLine; omega) e r1 r2) h3 h4).1 X.prog X.w X.xe _ ⟨.bl _, H, I, rfl, hq⟩
theorem op_neD (n : Nat) (hu : X.A.units + n + 1 < cLine) : OpR X (compareOp .NotEq) (rSeqD n not) := by
 intro pins s σ H x y v u Q I rx ry h
 obtain ⟨p, q, xs, ys, ks, rfl, rfl, h3, h4, hq⟩ := h
 cases rx
 cases ry
 exact (rc_seq I (by omega) (fun e r1 r2 => eqD_at I (show X.A.in1.units + n < cLine by show X.A.units + 1 + n < cLine; omega) e r1 r2) h3 h4).2 X.prog X.w X.xe _ ⟨.bl _, H, I, rfl, hq⟩
noncomputable def rInD (n : Nat) (g : Bool → Bool) : R2 := fun x y H Q => ∃ q xs ks, y = .ref q ∧ (H q = some (.tup xs) ∨ H q = some (.lst xs)) ∧ E3 (EqD H n) xs (xs.map fun _ => x) ks ∧ Q (.bl (g (ks.any id))) H
theorem relV_inj : ∀ {a b : V} {u : Value}, RelV a u → RelV b u → a = b := fun {a b u} ha hb => by
 cases a <;> cases b <;> simp only [RelV] at ha hb <;> first
  | rfl
  | (subst ha; cases hb; rfl)
  | (subst ha; cases hb; done)
  | (obtain ⟨t, rfl⟩ := ha; obtain ⟨t', e⟩ := hb; cases e; rfl)
  | (obtain ⟨t, rfl⟩ := ha; obtain ⟨t', e⟩ := hb; cases e; done)
  | (obtain ⟨t, rfl⟩ := ha; cases hb; done)
  | (obtain ⟨t, rfl⟩ := hb; cases ha; done)
theorem EqF.func {a b : V} {k k' : Bool} (h : EqF a b k) (h' : EqF a b k') : k = k' := by
 rcases h with ⟨i, j, rfl, rfl, rfl⟩ | ⟨x, y, rfl, rfl, rfl⟩
 ·rcases h' with ⟨i', j', h1, h2, rfl⟩ | ⟨x, y, h1, h2, rfl⟩
  ·cases h1; cases h2; rfl
  ·cases h1
 ·rcases h' with ⟨i', j', h1, h2, rfl⟩ | ⟨x', y', h1, h2, rfl⟩
  ·cases h1
  ·cases h1; cases h2; rfl
theorem EqF.noref {p : Addr} {b : V} {k : Bool} (h : EqF (.ref p) b k) : False := by
 rcases h with ⟨i, j, h1, _⟩ | ⟨x, y, h1, _⟩ <;> cases h1
theorem EqD.func {H : Hp} : ∀ {n : Nat} {a b : V} {k k' : Bool}, EqD H n a b k → EqD H n a b k' → k = k'
 | 0, a, b, k, k', h, h' => EqF.func h h'
 | n + 1, a, b, k, k', h, h' => by
  rcases h with h | ⟨p, q, xs, ys, ks, rfl, rfl, h3, h4, rfl⟩
  ·rcases h' with h' | ⟨p, q, xs, ys, ks, rfl, rfl, h3, h4, rfl⟩
   ·exact EqF.func h h'
   ·exact h.noref.elim
  ·rcases h' with h' | ⟨p', q', xs', ys', ks', e1, e2, h3', h4', rfl⟩
   ·exact h'.noref.elim
   ·cases e1; cases e2
    have ex : xs = xs' ∧ ys = ys' := by
     rcases h3 with ⟨u, v⟩ | ⟨u, v⟩ <;> rcases h3' with ⟨u', v'⟩ | ⟨u', v'⟩ <;> rw [u] at u' <;> rw [v] at v' <;> cases u' <;> cases v' <;> exact ⟨rfl, rfl⟩
    obtain ⟨rfl, rfl⟩ := ex
    have go : ∀ {xs ys : List V} {ks ks' : List Bool}, E3 (EqD H n) xs ys ks → E3 (EqD H n) xs ys ks' → ks = ks' := fun {xs} => by
     induction xs with
     | nil =>
      intro ys ks ks' g g'
      cases ys with
      | nil =>
       cases ks with
       | nil => cases ks' with | nil => rfl | cons _ _ => exact g'.elim
       | cons _ _ => exact g.elim
      | cons _ _ => exact g.elim
     | cons x xs ih =>
      intro ys ks ks' g g'
      cases ys with
      | nil => exact g.elim
      | cons y ys =>
       cases ks with
       | nil => exact g.elim
       | cons k ks =>
        cases ks' with
        | nil => exact g'.elim
        | cons k' ks' => rw [EqD.func g.1 g'.1, ih g.2 g'.2]
    rw [go h4 h4']
open Classical in
theorem any_in {H : Hp} {n : Nat} {x : V} {e : Value → Bool} (he : ∀ a u k, RelV a u → EqD H n a x k → e u = k) : ∀ {xs : List V} {us : List Value} {ks : List Bool}, Vals xs us → E3 (EqD H n) xs (xs.map fun _ => x) ks → us.any e = ks.any id
 | [], _, [], .nil, _ => rfl
 | [], _, _ :: _, .nil, h => h.elim
 | y :: xs, _, k :: ks, .cons r t, h => by
  rw [List.any_cons, List.any_cons, he _ _ _ r h.1, any_in he t h.2]; rfl
 | _ :: _, _, [], .cons _ _, h => h.elim
open Classical in
theorem in_core {A : Around} {n : Nat} {x : V} {v : Value} {xs : List V} {us : List Value} {ks : List Bool} {pins : List (Addr × Obj)} {σ : St} {H : Hp} {s : Shared} (I : Inv X pins σ H s) (hu : A.units + n < cLine) (rx : RelV x v) (r : Vals xs us) (h : E3 (EqD H n) xs (xs.map fun _ => x) ks) :
  ∃ e : Value → Bool, (∀ y ∈ us, SeqAt.EqAt A s y v (e y)) ∧ us.any e = ks.any id := by
 refine ⟨fun y => decide (∃ a, RelV a y ∧ EqD H n a x true), fun y hy => ?_, any_in (fun a u k ra hk => ?_) r h⟩
 ·obtain ⟨j, hj, e⟩ := List.getElem_of_mem hy
  have hl := r.length
  have hjx : j < xs.length := by omega
  obtain ⟨u, hu', ru⟩ := r.get (List.getElem?_eq_getElem hjx)
  have eu : u = y := by
   rw [List.getElem?_eq_getElem hj, e] at hu'
   exact (Option.some.inj hu').symm
  subst eu
  obtain ⟨k, hk, ek⟩ := h.get (List.getElem?_eq_getElem hjx) (y := x) (by rw [List.getElem?_map, List.getElem?_eq_getElem hjx]; rfl)
  have : decide (∃ a, RelV a u ∧ EqD H n a x true) = k := by
   cases k with
   | true => exact decide_eq_true ⟨_, ru, ek⟩
   | false =>
    refine decide_eq_false ?_
    rintro ⟨a, ra, ea⟩
    have := relV_inj ra ru
    subst this
    cases EqD.func ek ea
  show SeqAt.EqAt A s u v (decide (∃ a, RelV a u ∧ EqD H n a x true))
  rw [this]
  exact eqD_at I hu ek ru rx
 ·cases k with
  | true => exact decide_eq_true ⟨a, ra, hk⟩
  | false =>
   refine decide_eq_false ?_
   rintro ⟨b, rb, eb⟩
   have := relV_inj rb ra
   subst this
   cases EqD.func hk eb
theorem op_inD (n : Nat) (hu : X.A.units + n + 1 < cLine) : OpR X (compareOp .In) (rInD n id) := by
 intro pins s σ H x y v u Q I rx ry h
 obtain ⟨q, xs, ks, rfl, hq, h4, hQ⟩ := h
 cases ry
 have hu' : X.A.in1.units + n < cLine := by show X.A.units + 1 + n < cLine; omega
 rcases hq with hq | hq
 ·obtain ⟨us, r, p, _⟩ := I.tuple (SqT.of hq)
  obtain ⟨e, e1, e2⟩ := in_core I hu' rx r h4
  refine SeqAt.in_tupleAt e p (fun y hy => e1 y (by simpa using hy)) ⟨.bl _, H, I, rfl, ?_⟩
  rw [show us.toArray.any e = us.any e by simp, e2]; exact hQ
 ·obtain ⟨us, r, p, _⟩ := I.list (SqL.of hq)
  obtain ⟨e, e1, e2⟩ := in_core I hu' rx r h4
  refine SeqAt.in_listAt e p.isList (fun y hy => e1 y (by simpa using hy)) ⟨.bl _, H, I, rfl, ?_⟩
  rw [show us.toArray.any e = us.any e by simp, e2]; exact hQ
theorem op_notInD (n : Nat) (hu : X.A.units + n + 1 < cLine) : OpR X (compareOp .NotIn) (rInD n not) := by
 intro pins s σ H x y v u Q I rx ry h
 obtain ⟨q, xs, ks, rfl, hq, h4, hQ⟩ := h
 cases ry
 have hu' : X.A.in1.units + n < cLine := by show X.A.units + 1 + n < cLine; omega
 rcases hq with hq | hq
 ·obtain ⟨us, r, p, _⟩ := I.tuple (SqT.of hq)
  obtain ⟨e, e1, e2⟩ := in_core I hu' rx r h4
  refine SeqAt.notIn_tupleAt e p (fun y hy => e1 y (by simpa using hy)) ⟨.bl _, H, I, rfl, ?_⟩
  rw [show us.toArray.any e = us.any e by simp, e2]; exact hQ
 ·obtain ⟨us, r, p, _⟩ := I.list (SqL.of hq)
  obtain ⟨e, e1, e2⟩ := in_core I hu' rx r h4
  refine SeqAt.notIn_listAt e p.isList (fun y hy => e1 y (by simpa using hy)) ⟨.bl _, H, I, rfl, ?_⟩
  rw [show us.toArray.any e = us.any e by simp, e2]; exact hQ
end
end L2
namespace PySem.SeqAt
open AutoSeq1 (wpAny_loadPart')
open MeetsSeq MeetsSeq2 MeetsSeq3 SeqRoads2
end PySem.SeqAt
namespace L2
open PySem PySem.Spec PyProof.Rows
section
variable {X : Cx}
end
end L2
namespace Grd
open PySem PyProof.Rows
noncomputable def ltP (c d : Int × Int) : Prop := HT.lexLt [c.1, c.2] [d.1, d.2] = true
theorem ltP_row {r j k : Int} (h : j < k) : ltP (r, j) (r, k) := by
 unfold ltP
 rw [HT.lexLt_cons, if_pos rfl, HT.lexLt_cons, if_neg (by show ¬ j = k; omega)]
 exact decide_eq_true h
theorem ltP_rows {r s j k : Int} (h : r < s) : ltP (r, j) (s, k) := by
 unfold ltP
 rw [HT.lexLt_cons, if_neg (by show ¬ r = s; omega)]
 exact decide_eq_true h
theorem zip_up {α : Type} (xs : List α) : xs.zipIdx.Pairwise fun a b => a.2 < b.2 := by
 rw [List.pairwise_iff_getElem]
 intro i j hi hj hij
 simp only [List.getElem_zipIdx]
 omega
theorem rowF_up (f : Int → Bool) (r : Int) (xs : List Int) : (rowF f r xs).Pairwise ltP := by
 unfold rowF
 rw [List.pairwise_filterMap]
 refine (zip_up xs).imp fun {a b} h c hc d hd => ?_
 cases ha : f a.1 with
 | false => simp [ha] at hc
 | true =>
  cases hb : f b.1 with
  | false => simp [hb] at hd
  | true =>
   simp only [ha, if_true, Option.some.injEq] at hc
   simp only [hb, if_true, Option.some.injEq] at hd
   subst hc hd
   exact ltP_row (by omega)
theorem gridF_up (f : Int → Bool) (g : Grid) : (gridF f g).Pairwise ltP := by
 unfold gridF
 rw [List.pairwise_flatten]
 refine ⟨fun l hl => ?_, ?_⟩
 ·obtain ⟨p, _, rfl⟩ := List.mem_map.mp hl
  exact rowF_up _ _ _
 ·rw [List.pairwise_map]
  refine (zip_up g).imp fun {a b} h c hc d hd => ?_
  obtain ⟨e1, _⟩ := mem_rowF.mp hc
  obtain ⟨e2, _⟩ := mem_rowF.mp hd
  obtain ⟨c1, c2⟩ := c
  obtain ⟨d1, d2⟩ := d
  dsimp only at e1 e2
  subst e1 e2
  exact ltP_rows (by omega)
noncomputable def LandOf (g : Grid) (cs : List (Int × Int)) : Prop := cs.Sublist (gridF pos g)
end Grd
namespace L2
open PySem Grd
theorem PlAt.at {H : Hp} : ∀ {ps : List Addr} {cs : List (Int × Int)} {i : Nat} {p : Addr}, PlAt H ps cs → ps[i]? = some p → ∃ c, cs[i]? = some c ∧ H p = some (.tup [.int c.1, .int c.2])
 | _, _, 0, _, .cons r _, h => by cases h; exact ⟨_, rfl, r⟩
 | _, _, i + 1, _, .cons _ t, h => PlAt.at (i := i) t (by simpa using h)
theorem getR {ps : List Addr} {i : Nat} {x : V} (h : (ps.map V.ref)[i]? = some x) : ∃ p, ps[i]? = some p ∧ x = .ref p := by
 rw [List.getElem?_map] at h
 cases e : ps[i]? with
 | none => rw [e] at h; cases h
 | some p => rw [e] at h; exact ⟨p, rfl, (Option.some.inj h).symm⟩
theorem cutR (ps : List Addr) : cutV (ps.map V.ref) (some 1) none = (ps.drop 1).map V.ref := by
 have e1 : HT.sIx (ps.map V.ref).length 0 (some 1) = min 1 (ps.map V.ref).length := HT.sIx_nat _ _ 1
 have e2 : HT.sIx (ps.map V.ref).length (ps.map V.ref).length none = (ps.map V.ref).length := rfl
 unfold cutV
 rw [e1, e2, List.length_map]
 cases ps with
 | nil => rfl
 | cons p ps =>
  rw [show min 1 (p :: ps).length = 1 by rw [List.length_cons]; omega, ← List.map_drop, List.take_of_length_le (by rw [List.length_map, List.length_drop]; omega)]
end L2
namespace M50
open PySem L2 PyProof.Rows Grd
noncomputable abbrev sRising : Stmt := top 11
noncomputable abbrev sIsLand : Stmt := top 26
noncomputable abbrev sChkLand : Stmt := top 27
noncomputable def spRising : Sp := fun vs H Q _ => ∃ a cs, vs = [.ref a] ∧ SqA H a cs ∧ cs.length ≤ 10 ∧ cs.Pairwise ltP ∧ ∀ H', Same H H' → Q (.bl true) H'
noncomputable def spIsLand : Sp := fun vs H Q _ => ∃ a t g w cs, vs = [.ref a, .ref t] ∧ GridAt H a g ∧ Good g w ∧ SqA H t cs ∧ LandOf g cs ∧ ∀ H', Same H H' → Q (.bl true) H'
noncomputable def spChkLand : Sp := fun vs H Q _ => ∃ a t g w cs, vs = [.ref a, .ref t] ∧ GridAt H a g ∧ Good g w ∧ SqA H t cs ∧ LandOf g cs ∧ ∀ H', Same H H' → Q .non H'
theorem LandOf.len {g : Grid} {w : Nat} {cs : List (Int × Int)} (G : Good g w) (h : LandOf g cs) : cs.length ≤ 10 := by
 have := List.Sublist.length_le h
 rw [len_cells] at this
 have := G.c10
 omega
section
variable {P : Program} {w : World} {K : PySem.W.Frag} {mg : Str → Option Value} {base : Heap}
theorem scRising : FnScope ["things"] ["things"] (defScope sRising) := ⟨rfl, rfl, rfl, by decide +kernel, rfl, by decide +kernel, by decide +kernel⟩
theorem ndRO : (["one", "other"] : List Str).Nodup := by decide +kernel
theorem ok_rising {f : Addr} {fd : FuncData} (F : Fun K "is_rising" "is_rising" sRising f fd) (T : Txt mg) (T2 : Txt2 mg) : FnOk P w K mg base CX0 1 f fd ["things"] spRising := by
 refine F.ok scRising (fun vs H Q E h => ?_) (fun cdv A outer s H vs Q E hr h => ?_)
 ·obtain ⟨a, cs, rfl, _⟩ := h; rfl
 ·obtain ⟨a, cs, rfl, ⟨ps, ha, hP⟩, h10, hup, q⟩ := h
  have hlen : ps.length = cs.length := Paired.length hP
  refine ⟨_, pss_one (ps_ret (pe_callB (call_all rfl) rfl T.all boot_all (pa_lc (pe_comp1 (defScope sRising).names ["things"] ["one", "other"] [] rfl (PI.or (pi_zip kT_ok rfl T2.zip (pa_v (pv 0) (pa_s (pe_slice sl_tupU (pv 0) (po_some pe_int) po_none) pa_nil))) (pi_zip2 kT_ok rfl T2.zip (pa_v (pv 0) (pa_s (pe_slice sl_tupU (pv 0) (po_some pe_int) po_none) pa_nil)))) rfl rfl rfl (by decide +kernel)
   (fun Z => pg_tup rfl (pgs_cons (pg_name (i := 0) ndRO rfl (Or.inl rfl)) (pgs_cons (pg_name (i := 1) ndRO rfl (Or.inl rfl)) pgs_nil))) (fun Z => pts_nil) (fun Z => pe_cmpR (op_ltT (Nat.lt_of_succ_lt (hu_of hr))) (pv 0) (pv 1) (nomark _))) pa_nil))), ?_⟩
  cases ps with
  | nil =>
   refine .inl ⟨_, rfl, _, rfl, _, rfl, a, _, rfl, ha, fun t H1 s1 ht => ?_⟩
   rw [cutR] at ht
   refine ⟨a, t, [], [], rfl, SqT.of (s1 _ _ ha), SqT.of ht, fun Z r hr' => ?_⟩
   refine for_zip (xs := []) (ys := []) rfl (fun i σ H' => Same H1 H' ∧ H' r = some (.lst [])) ⟨same_upd hr', upd_same⟩ (fun i σ H' h => ⟨SqT.of (h.1 _ _ (s1 _ _ ha)), SqT.of (h.1 _ _ ht)⟩) ?_ ?_
   ·intro i x y p3 σ H' hx; cases hx
   ·rintro σ H' ⟨hs, hl'⟩
    exact ⟨r, [], rfl, SqL.of hl', q H' (s1.trans hs)⟩
  | cons p0 ps0 =>
   refine .inr ⟨_, rfl, _, rfl, _, rfl, a, _, rfl, ha, fun t H1 s1 ht => ?_⟩
   rw [cutR] at ht
   generalize hps : p0 :: ps0 = ps at *
   have h1 : 1 ≤ ps.length := by rw [← hps]; simp
   refine ⟨a, t, ps.map V.ref, (ps.drop 1).map V.ref, rfl, SqT.of (s1 _ _ ha), SqT.of ht, fun Z r hr' => ?_⟩
   refine for_zip2 (xs := ps.map V.ref) (ys := (ps.drop 1).map V.ref) (by rw [List.length_map, List.length_map, List.length_drop]; omega) (fun i σ H' => σ.length = 2 ∧ Same H1 H' ∧ H' r = some (.lst (((ps.drop 1).take i).map fun _ => V.bl true))) ⟨rfl, same_upd hr', by rw [upd_same]; rfl⟩
    (fun i σ H' h => ⟨SqT.of (h.2.1 _ _ (s1 _ _ ha)), SqT.of (h.2.1 _ _ ht)⟩) ?_ ?_
   ·rintro i x y p3 σ H' hx hy ⟨hσ, hs, hl'⟩ hp3
    match σ, hσ with
    | [x0, x1], _ =>
    obtain ⟨b, hb, rfl⟩ := getR hx
    obtain ⟨b2, hb2, rfl⟩ := getR hy
    have hb2' : ps[i + 1]? = some b2 := by rw [List.getElem?_drop] at hb2; rw [show i + 1 = 1 + i by omega]; exact hb2
    obtain ⟨c, hc, he⟩ := hP.at hb
    obtain ⟨c2, hc2, he2⟩ := hP.at hb2'
    have s3 := same_upd (o := .tup [.ref b, .ref b2]) hp3
    refine ⟨p3, _, rfl, SqT.of upd_same, rfl, _, _, rfl, _, _, rfl, rfl, ?_⟩
    refine body_all ?_
    refine ⟨_, rfl, _, rfl, b, b2, [c.1, c.2], [c2.1, c2.2], rfl, rfl, SqT.of (s3 _ _ (hs _ _ (s1 _ _ he))), SqT.of (s3 _ _ (hs _ _ (s1 _ _ he2))), ?_⟩
    have hlt : HT.lexLt [c.1, c.2] [c2.1, c2.2] = true := by
     obtain ⟨g1, e1⟩ := List.getElem?_eq_some_iff.mp hc
     obtain ⟨g2, e2⟩ := List.getElem?_eq_some_iff.mp hc2
     have := List.pairwise_iff_getElem.mp hup i (i + 1) g1 g2 (by omega)
     rw [e1, e2] at this
     exact this
    rw [hlt]
    have hi : i < (ps.drop 1).length := (List.getElem?_eq_some_iff.mp hb2).1
    rw [List.length_drop] at hi
    refine ⟨_, s3 _ _ hl', small1000 (by rw [List.length_map, List.length_take]; omega), rfl, fun b' u e' => ?_, ?_⟩
    ·rw [upd_ne (ne_of_none e' hr')]; exact s3 _ _ (hs _ _ e')
    ·rw [upd_same, List.take_succ, hb2, List.map_append]; rfl
   ·rintro σ H' ⟨_, hs, hl'⟩
    rw [List.length_map, List.take_of_length_le (Nat.le_refl _)] at hl'
    refine ⟨r, (ps.drop 1).map fun _ => true, rfl, SqL.of (by rw [hl', List.map_map]; rfl), ?_⟩
    have : ((ps.drop 1).map fun _ => true).all id = true := by rw [List.all_map]; exact List.all_eq_true.mpr fun _ _ => rfl
    rw [this]
    exact q H' (s1.trans hs)
theorem scIsLand : FnScope ["mead", "thing"] ["mead", "thing"] (defScope sIsLand) := ⟨rfl, rfl, rfl, by decide +kernel, rfl, by decide +kernel, by decide +kernel⟩
theorem ndPM : (["place", "mead"] : List Str).Nodup := by decide +kernel
theorem ok_isLand {f g1 g2 g3 : Addr} {fd d1 d2 d3 : FuncData} (F : Fun K "is_land" "is_land" sIsLand f fd) (T : Txt mg) (a1 : At P w K mg base CX0 5 "check_mead" g1 d1 ["mead"] spCheck) (a2 : At P w K mg base CX0 3 "is_cell" g2 d2 ["mead", "thing"] spIsCell) (a3 : At P w K mg base CX0 1 "is_rising" g3 d3 ["things"] spRising) : FnOk P w K mg base CX0 6 f fd ["mead", "thing"] spIsLand := by
 refine F.ok scIsLand (fun vs H Q E h => ?_) (fun cdv A outer s H vs Q E hr h => ?_)
 ·obtain ⟨a, t, g, w', cs, rfl, _⟩ := h; rfl
 ·obtain ⟨a, t, g, w', cs, rfl, hA, G, hT, hL, q⟩ := h
  refine ⟨_, pss_cons (ps_expr (pe_call a1.ok hr rfl a1.nm a1.kp a1.bd .nil pass0 (pa_v (pv 0) pa_nil))) <|
   pss_cons (ps_if (PW.pt (pw_or (pt_not (pt_val (pe_callB call_isinst rfl T.isinstance boot_isinstance (pa_v (pv 1) (pa_v (pe_bltn (v := .ty "tuple") rfl T.tuple boot_tuple rfl) pa_nil))))) (pw_or1 (pt_not (pt_val (pe_callB (call_all rfl) rfl T.all boot_all (pa_lc (pe_comp1 (defScope sIsLand).names ["mead", "thing"] ["place"] [("mead", 0)] rfl (pi_tup (pv 1)) rfl rfl rfl (by decide +kernel)
    (fun Z => pg_name (i := 0) ndPM rfl (Or.inl rfl)) (fun Z => pts_nil) (fun Z => pe_call a2.ok (hr.mono (by decide)) rfl a2.nm a2.kp a2.bd .nil pass0 (pa_v (pv 1) (pa_v (pv 0) pa_nil)))) pa_nil))))))) pss_never pss_nil) <|
   pss_one (ps_ret (pe_call a3.ok (hr.mono (by decide)) rfl a3.nm a3.kp a3.bd .nil pass0 (pa_v (pv 1) pa_nil))), ?_⟩
  refine ⟨_, rfl, a, g, w', rfl, hA, G, fun H1 s1 => ?_⟩
  obtain ⟨ps, ht, hP⟩ := hT.same s1
  have hlen : ps.length = cs.length := Paired.length hP
  have h10 := LandOf.len G hL
  refine ⟨_, rfl, _, "tuple", .type "tuple", true, rfl, .tup ht, kit_same _, _, rfl, iteF ?_⟩
  refine ⟨_, rfl, t, rfl, ⟨_, SqT.of ht⟩, fun Z l hl => ?_⟩
  refine for_tup (K := K) (a := t) (xs := ps.map V.ref) (fun i σ H' => (∃ o, σ = [o, some (.ref a)]) ∧ Same H1 H' ∧ H' l = some (.lst ((ps.take i).map fun _ => V.bl true))) ⟨⟨_, rfl⟩, same_upd hl, by rw [upd_same]; rfl⟩ (fun i σ H' _ h => SqT.of (h.2.1 _ _ ht)) ?_ ?_
  ·rintro i x σ H' hx ⟨⟨o, rfl⟩, hs, hl'⟩
   obtain ⟨p, hp, rfl⟩ := getR hx
   obtain ⟨c, hc, he⟩ := hP.at hp
   have hi : i < ps.length := (List.getElem?_eq_some_iff.mp hp).1
   refine body_name ?_
   have hpl : placeOf H' (.ref p) = some c := by unfold placeOf; rw [tupOf_of (hs _ _ he)]
   have hin : isCell H' g (.ref p) = true := by
    unfold isCell; rw [hpl]
    exact decide_eq_true (hL.subset (List.mem_of_getElem? hc))
   refine ⟨_, rfl, _, rfl, a, g, w', _, rfl, hA.same (s1.trans hs), G, (KnA.tup (hs _ _ he) (by simp) (fun x hx => by
    simp only [List.mem_cons, List.not_mem_nil, or_false] at hx
    rcases hx with rfl | rfl <;> exact KnA.int _)) 2, fun H2 s2 => ?_⟩
   rw [hin]
   refine ⟨_, s2 _ _ hl', small1000 (by rw [List.length_map, List.length_take]; omega), ⟨_, rfl⟩, fun b' u e' => ?_, ?_⟩
   ·rw [upd_ne (ne_of_none e' hl)]; exact s2 _ _ (hs _ _ e')
   ·rw [upd_same, List.take_succ, hp, List.map_append]; rfl
  ·rintro σ H' ⟨_, hs, hl'⟩
   rw [List.length_map, List.take_of_length_le (Nat.le_refl _)] at hl'
   refine ⟨l, ps.map fun _ => true, rfl, SqL.of (by rw [hl', List.map_map]; rfl), ?_⟩
   have : (ps.map fun _ => true).all id = true := by simp
   rw [this]
   refine ⟨_, rfl, iteF ?_⟩
   have sA := s1.trans hs
   exact ⟨_, rfl, t, cs, rfl, hT.same sA, h10, (gridF_up pos g).sublist hL, fun H2 s2 => q H2 (sA.trans s2)⟩
theorem scChkLand : FnScope ["mead", "land"] ["mead", "land"] (defScope sChkLand) := ⟨rfl, rfl, rfl, by decide +kernel, rfl, by decide +kernel, by decide +kernel⟩
theorem ok_chkLand {f g1 : Addr} {fd d1 : FuncData} (F : Fun K "check_land" "check_land" sChkLand f fd) (a1 : At P w K mg base CX0 6 "is_land" g1 d1 ["mead", "thing"] spIsLand) : FnOk P w K mg base CX0 7 f fd ["mead", "land"] spChkLand := by
 refine F.ok scChkLand (fun vs H Q E h => ?_) (fun cdv A outer s H vs Q E hr h => ?_)
 ·obtain ⟨a, t, g, w', cs, rfl, _⟩ := h; rfl
 ·obtain ⟨a, t, g, w', cs, rfl, hA, G, hT, hL, q⟩ := h
  refine ⟨_, pss_one (ps_if (pt_not (pt_val (pe_call a1.ok hr rfl a1.nm a1.kp a1.bd .nil pass0 (pa_v (pv 0) (pa_v (pv 1) pa_nil))))) pss_never pss_nil), ?_⟩
  exact ⟨_, rfl, _, rfl, a, t, g, w', cs, rfl, hA, G, hT, hL, fun H' hs => ⟨_, rfl, iteF (q H' hs)⟩⟩
end
end M50
namespace L2
open PySem PySem.Spec PyProof.Rows Grd Wlk
section
variable {X : Cx} {es : List Expr} {te : TE} {t : TA}
theorem pq_v {x pos} (he : PE X (.Name x pos) te) (hr : PAq X es t) : PAq X (.Name x pos :: es) (tCons te t) := by unfold PAq at *; exact pa_v he hr
end
noncomputable abbrev PlA (H : Hp) (p : Addr) (c : Int × Int) : Prop := H p = some (.tup [.int c.1, .int c.2])
noncomputable def StA (H : Hp) (q : Addr) (s : WStep) : Prop := ∃ a b, H q = some (.tup [.ref a, .ref b]) ∧ PlA H a s.1 ∧ PlA H b s.2
theorem StA.same {H H' : Hp} {q : Addr} {s : WStep} (h : StA H q s) (e : Same H H') : StA H' q s := let ⟨a, b, h1, h2, h3⟩ := h; ⟨a, b, e _ _ h1, e _ _ h2, e _ _ h3⟩
theorem StA.sq {H : Hp} {q : Addr} {s : WStep} (h : StA H q s) : SqA H q [s.1, s.2] := let ⟨a, b, h1, h2, h3⟩ := h; ⟨[a, b], h1, .cons h2 (.cons h3 .nil)⟩
theorem StA.of {H : Hp} {q : Addr} {s : WStep} (h : SqA H q [s.1, s.2]) : StA H q s := by
 obtain ⟨ps, h1, h2⟩ := h
 cases h2 with
 | cons r t =>
  cases t with
  | cons r2 t2 => cases t2; exact ⟨_, _, h1, r, r2⟩
noncomputable def StAt (H : Hp) (qs : List Addr) (ss : List WStep) : Prop := Paired (StA H) qs ss
theorem StAt.same {H H' : Hp} {qs : List Addr} {ss : List WStep} (h : StAt H qs ss) (e : Same H H') : StAt H' qs ss := Paired.mapP h fun _ _ z => z.same e
theorem StAt.at {H : Hp} : ∀ {qs : List Addr} {ss : List WStep} {i : Nat} {q : Addr}, StAt H qs ss → qs[i]? = some q → ∃ s, ss[i]? = some s ∧ StA H q s
 | _, _, 0, _, .cons r _, h => by cases h; exact ⟨_, rfl, r⟩
 | _, _, i + 1, _, .cons _ t, h => StAt.at (i := i) t (by simpa using h)
theorem StAt.snoc {H : Hp} {qs : List Addr} {ss : List WStep} {q : Addr} {s : WStep} (h : StAt H qs ss) (e : StA H q s) : StAt H (qs ++ [q]) (ss ++ [s]) := Paired.snoc h e
theorem StAt.app {H : Hp} {qs qs' : List Addr} {ss ss' : List WStep} (h : StAt H qs ss) (h' : StAt H qs' ss') : StAt H (qs ++ qs') (ss ++ ss') := by
 induction h with
 | nil => exact h'
 | cons r t ih => exact .cons r ih
theorem PlA.put {H : Hp} {l : Addr} {xs ys : List V} (hl : H l = some (.lst xs)) {p : Addr} {c : Int × Int} (h : PlA H p c) : PlA (upd H l (.lst ys)) p c := by
 have h' : H p = some (.tup [.int c.1, .int c.2]) := h
 show upd H l (.lst ys) p = _
 rw [upd_ne (fun z => by rw [z, hl] at h'; cases h')]; exact h
theorem tupPut {H : Hp} {l q : Addr} {xs ys us : List V} (hl : H l = some (.lst xs)) (h : H q = some (.tup us)) : upd H l (.lst ys) q = some (.tup us) := by
 rw [upd_ne (fun z => by rw [z, hl] at h; cases h)]; exact h
theorem StA.put {H : Hp} {l : Addr} {xs ys : List V} (hl : H l = some (.lst xs)) {q : Addr} {s : WStep} (h : StA H q s) : StA (upd H l (.lst ys)) q s := let ⟨a, b, h1, h2, h3⟩ := h; ⟨a, b, tupPut hl h1, h2.put hl, h3.put hl⟩
theorem StAt.put {H : Hp} {l : Addr} {xs ys : List V} (hl : H l = some (.lst xs)) {qs : List Addr} {ss : List WStep} (h : StAt H qs ss) : StAt (upd H l (.lst ys)) qs ss := Paired.mapP h fun _ _ z => z.put hl
noncomputable def SideA (H : Hp) (q : Addr) (b : (Int × Int) × WStep) : Prop := ∃ p st, H q = some (.tup [.ref p, .ref st]) ∧ PlA H p b.1 ∧ StA H st b.2
theorem SideA.same {H H' : Hp} {q : Addr} {b : (Int × Int) × WStep} (h : SideA H q b) (e : Same H H') : SideA H' q b := let ⟨p, st, h1, h2, h3⟩ := h; ⟨p, st, e _ _ h1, e _ _ h2, h3.same e⟩
theorem SideA.put {H : Hp} {l : Addr} {xs ys : List V} (hl : H l = some (.lst xs)) {q : Addr} {b : (Int × Int) × WStep} (h : SideA H q b) : SideA (upd H l (.lst ys)) q b := let ⟨p, st, h1, h2, h3⟩ := h; ⟨p, st, tupPut hl h1, h2.put hl, h3.put hl⟩
noncomputable def EvI (e : TE) (σ : St) (i : Int) : Prop := ∀ H Q, Q (.int i) H → e σ H Q
theorem tup2 {e1 e2 : TE} {σ : St} {H : Hp} {Q : VK} {i j : Int} (h1 : EvI e1 σ i) (h2 : EvI e2 σ j) (q : ∀ p H', Same H H' → PlA H' p (i, j) → Q (.ref p) H') : tTup (tCons e1 (tCons e2 tNil)) σ H Q :=
 h1 _ _ (h2 _ _ ⟨by show 2 ≤ sizeLine; decide, fun p hp => q p _ (same_upd hp) upd_same⟩)
theorem tupS {e1 e2 e3 e4 : TE} {σ : St} {H : Hp} {Q : VK} {i j k m : Int} (h1 : EvI e1 σ i) (h2 : EvI e2 σ j) (h3 : EvI e3 σ k) (h4 : EvI e4 σ m) (q : ∀ p H', Same H H' → StA H' p ((i, j), (k, m)) → Q (.ref p) H') :
  tTup (tCons (tTup (tCons e1 (tCons e2 tNil))) (tCons (tTup (tCons e3 (tCons e4 tNil))) tNil)) σ H Q := by
 refine tup2 (Q := fun v H1 => tCons (tTup (tCons e3 (tCons e4 tNil))) tNil σ H1 fun xs H2 => (v :: xs).length ≤ sizeLine ∧ ∀ p, H2 p = none → Q (.ref p) (upd H2 p (.tup (v :: xs)))) h1 h2 fun p H1 s1 hp => ?_
 refine tup2 (Q := fun v H2 => tNil σ H2 fun xs H3 => (V.ref p :: v :: xs).length ≤ sizeLine ∧ ∀ p', H3 p' = none → Q (.ref p') (upd H3 p' (.tup (V.ref p :: v :: xs)))) h3 h4 fun p2 H2 s2 hp2 => ?_
 refine ⟨by show 2 ≤ sizeLine; decide, fun p3 hp3 => ?_⟩
 have s3 := same_upd (o := .tup [.ref p, .ref p2]) hp3
 exact q p3 _ ((s1.trans s2).trans s3) ⟨p, p2, upd_same, s3 _ _ (s2 _ _ hp), s3 _ _ hp2⟩
theorem tupB {e1 e2 e3 e4 e5 e6 : TE} {σ : St} {H : Hp} {Q : VK} {i j k m n o : Int} (h1 : EvI e1 σ i) (h2 : EvI e2 σ j) (h3 : EvI e3 σ k) (h4 : EvI e4 σ m) (h5 : EvI e5 σ n) (h6 : EvI e6 σ o) (q : ∀ p H', Same H H' → SideA H' p ((i, j), ((k, m), (n, o))) → Q (.ref p) H') :
  tTup (tCons (tTup (tCons e1 (tCons e2 tNil))) (tCons (tTup (tCons (tTup (tCons e3 (tCons e4 tNil))) (tCons (tTup (tCons e5 (tCons e6 tNil))) tNil))) tNil)) σ H Q := by
 refine tup2 (Q := fun v H1 => tCons _ tNil σ H1 fun xs H2 => (v :: xs).length ≤ sizeLine ∧ ∀ p, H2 p = none → Q (.ref p) (upd H2 p (.tup (v :: xs)))) h1 h2 fun p H1 s1 hp => ?_
 refine tupS (Q := fun v H2 => tNil σ H2 fun xs H3 => (V.ref p :: v :: xs).length ≤ sizeLine ∧ ∀ p', H3 p' = none → Q (.ref p') (upd H3 p' (.tup (V.ref p :: v :: xs)))) h3 h4 h5 h6 fun p2 H2 s2 hp2 => ?_
 refine ⟨by show 2 ≤ sizeLine; decide, fun p3 hp3 => ?_⟩
 have s3 := same_upd (o := .tup [.ref p, .ref p2]) hp3
 exact q p3 _ ((s1.trans s2).trans s3) ⟨p, p2, upd_same, s3 _ _ (s2 _ _ hp), hp2.same s3⟩
theorem consB {e1 e2 e3 e4 e5 e6 : TE} {r : TA} {σ : St} {H : Hp} {Q : List V → Hp → Prop} {i j k m n o : Int} (h1 : EvI e1 σ i) (h2 : EvI e2 σ j) (h3 : EvI e3 σ k) (h4 : EvI e4 σ m) (h5 : EvI e5 σ n) (h6 : EvI e6 σ o) (q : ∀ p H', Same H H' → SideA H' p ((i, j), ((k, m), (n, o))) → r σ H' fun xs H2 => Q (.ref p :: xs) H2) :
  tCons (tTup (tCons (tTup (tCons e1 (tCons e2 tNil))) (tCons (tTup (tCons (tTup (tCons e3 (tCons e4 tNil))) (tCons (tTup (tCons e5 (tCons e6 tNil))) tNil))) tNil))) r σ H Q := tupB (Q := fun v H1 => r σ H1 fun xs H2 => Q (v :: xs) H2) h1 h2 h3 h4 h5 h6 q
theorem retLst {t : TA} {D : Ends} {σ : St} {H : Hp} (h : t σ H fun xs H1 => xs.length ≤ sizeLine ∧ ∀ p, H1 p = none → D.rt (.ref p) (upd H1 p (.lst xs))) : tRet (tLst t) D σ H := h
theorem ev_var {i : Nat} {σ : St} {n : Int} (h : σ[i]? = some (some (.int n))) : EvI (tVar i) σ n := fun H Q q => ⟨_, h, q⟩
theorem ev_inc {i : Nat} {σ : St} {n k : Int} (h : σ[i]? = some (some (.int n))) : EvI (tOp (rI0 fun i j => .int (i + j)) (tVar i) (tC (.int k))) σ (n + k) := fun H Q q => ⟨_, h, _, _, rfl, rfl, q⟩
theorem ev_dec {i : Nat} {σ : St} {n k : Int} (h : σ[i]? = some (some (.int n))) : EvI (tOp (rI0 fun i j => .int (i - j)) (tVar i) (tC (.int k))) σ (n - k) := fun H Q q => ⟨_, h, _, _, rfl, rfl, q⟩
end L2
namespace M50
open PySem L2 PyProof.Rows Grd Wlk
noncomputable abbrev sSides : Stmt := top 31
noncomputable abbrev sAlong : Stmt := top 32
noncomputable def spSides : Sp := fun vs H Q _ => ∃ p c, vs = [.ref p] ∧ PlA H p c ∧ ∀ l qs H', H l = none → Same H H' → H' l = some (.lst ((qs : List Addr).map V.ref)) → Paired (SideA H') qs (sidesP c) → Q (.ref l) H'
section
variable {P : Program} {w : World} {K : PySem.W.Frag} {mg : Str → Option Value} {base : Heap}
noncomputable abbrev nSi : List Str := ["cell", "row", "column"]
theorem scSides : FnScope nSi ["cell"] (defScope sSides) := ⟨rfl, rfl, rfl, by decide +kernel, rfl, by decide +kernel, by decide +kernel⟩
theorem ok_sides {f : Addr} {fd : FuncData} (F : Fun K "sides_of" "sides_of" sSides f fd) : FnOk P w K mg base CX0 1 f fd ["cell"] spSides := by
 refine F.ok scSides (fun vs H Q E h => ?_) (fun cdv A outer s H vs Q E hr h => ?_)
 ·obtain ⟨p, c, rfl, _⟩ := h; rfl
 ·obtain ⟨p, c, rfl, hp, q⟩ := h
  have nd := scSides.nd
  refine ⟨_, pss_cons2q (ps_asg (pv 0) (pg_tup rfl (pgs_cons (pg_name (i := 1) nd rfl (Or.inl rfl)) (pgs_cons (pg_name (i := 2) nd rfl (Or.inl rfl)) pgs_nil)))) <|
   retE (lstq
    (pq_tq (tupq (pq_tq (tupq (pq_b (pe_op op_sub (pv 1) pe_int) (pq_v (pv 2) pq_nil))) (pq_tq (tupq (pq_tq (tupq (pq_v (pv 1) (pq_v (pv 2) pq_nil))) (pq_tq (tupq (pq_v (pv 1) (pq_b (pe_op op_add (pv 2) pe_int) pq_nil))) pq_nil))) pq_nil)))
    (pq_tq (tupq (pq_tq (tupq (pq_v (pv 1) (pq_b (pe_op op_add (pv 2) pe_int) pq_nil))) (pq_tq (tupq (pq_tq (tupq (pq_v (pv 1) (pq_b (pe_op op_add (pv 2) pe_int) pq_nil))) (pq_tq (tupq (pq_b (pe_op op_add (pv 1) pe_int) (pq_b (pe_op op_add (pv 2) pe_int) pq_nil))) pq_nil))) pq_nil)))
    (pq_tq (tupq (pq_tq (tupq (pq_b (pe_op op_add (pv 1) pe_int) (pq_v (pv 2) pq_nil))) (pq_tq (tupq (pq_tq (tupq (pq_b (pe_op op_add (pv 1) pe_int) (pq_b (pe_op op_add (pv 2) pe_int) pq_nil))) (pq_tq (tupq (pq_b (pe_op op_add (pv 1) pe_int) (pq_v (pv 2) pq_nil))) pq_nil))) pq_nil)))
    (pq_tq (tupq (pq_tq (tupq (pq_v (pv 1) (pq_b (pe_op op_sub (pv 2) pe_int) pq_nil))) (pq_tq (tupq (pq_tq (tupq (pq_b (pe_op op_add (pv 1) pe_int) (pq_v (pv 2) pq_nil))) (pq_tq (tupq (pq_v (pv 1) (pq_v (pv 2) pq_nil))) pq_nil))) pq_nil))) pq_nil))))), ?_⟩
  refine ⟨_, rfl, p, _, rfl, SqT.of hp, rfl, _, _, rfl, _, _, rfl, rfl, ?_⟩
  dsimp only
  refine retLst ?_
  refine consB (by exact ev_dec rfl) (by exact ev_var rfl) (by exact ev_var rfl) (by exact ev_var rfl) (by exact ev_var rfl) (by exact ev_inc rfl) fun p1 H1 s1 h1 => ?_
  refine consB (by exact ev_var rfl) (by exact ev_inc rfl) (by exact ev_var rfl) (by exact ev_inc rfl) (by exact ev_inc rfl) (by exact ev_inc rfl) fun p2 H2 s2 h2 => ?_
  refine consB (by exact ev_inc rfl) (by exact ev_var rfl) (by exact ev_inc rfl) (by exact ev_inc rfl) (by exact ev_inc rfl) (by exact ev_var rfl) fun p3 H3 s3 h3 => ?_
  refine consB (by exact ev_var rfl) (by exact ev_dec rfl) (by exact ev_inc rfl) (by exact ev_var rfl) (by exact ev_var rfl) (by exact ev_var rfl) fun p4 H4 s4 h4 => ?_
  refine ⟨by show 4 ≤ sizeLine; decide, fun l hl => ?_⟩
  have s5 := same_upd (o := .lst [.ref p1, .ref p2, .ref p3, .ref p4]) hl
  exact q l [p1, p2, p3, p4] _ ((((s1.trans s2).trans s3).trans s4).free hl) ((((s1.trans s2).trans s3).trans s4).trans s5) upd_same (.cons ((((h1.same s2).same s3).same s4).same s5) (.cons (((h2.same s3).same s4).same s5) (.cons ((h3.same s4).same s5) (.cons (h4.same s5) .nil))))
end
end M50
namespace L2
open PySem PySem.Spec PyProof.Rows Grd Wlk
theorem hu1_of {A : Around} {k : Nat} (hr : Room k A) : A.units + 1 + 1 < cLine := Nat.lt_of_le_of_lt (Nat.add_le_add_left (by decide : 2 ≤ 64) _) hr.units
theorem hu2_of {A : Around} {k : Nat} (hr : Room k A) : A.units + 2 + 1 < cLine := Nat.lt_of_le_of_lt (Nat.add_le_add_left (by decide : 3 ≤ 64) _) hr.units
theorem huS_of {A : Around} {k : Nat} (hr : Room k A) : A.units + 2 < cLine := Nat.lt_of_le_of_lt (Nat.add_le_add_left (by decide : 2 ≤ 64) _) hr.units
theorem eqPl {H : Hp} {p q : Addr} {c d : Int × Int} (h1 : PlA H p c) (h2 : PlA H q d) (n : Nat) : EqD H (n + 1) (.ref p) (.ref q) (decide (c = d)) := by
 refine .inr ⟨p, q, _, _, [decide (c.1 = d.1), decide (c.2 = d.2)], rfl, rfl, .inl ⟨h1, h2⟩, ⟨EqD.int _ _ _, EqD.int _ _ _, trivial⟩, ?_⟩
 rw [Bool.eq_iff_iff]
 simp [Prod.ext_iff]
theorem e2Pl {H : Hp} {c d : Int × Int} : E3 (EqD H 0) [.int c.1, .int c.2] [.int d.1, .int d.2] [decide (c.1 = d.1), decide (c.2 = d.2)] := ⟨EqD.int _ _ _, EqD.int _ _ _, trivial⟩
theorem all2 (c d : Int × Int) : [decide (c.1 = d.1), decide (c.2 = d.2)].all id = decide (c = d) := by
 rw [Bool.eq_iff_iff]
 simp [Prod.ext_iff]
theorem e2St {H : Hp} {a b a' b' : Addr} {s t : WStep} (h1 : PlA H a s.1) (h2 : PlA H b s.2) (h3 : PlA H a' t.1) (h4 : PlA H b' t.2) : E3 (EqD H 1) [.ref a, .ref b] [.ref a', .ref b'] [decide (s.1 = t.1), decide (s.2 = t.2)] := ⟨eqPl h1 h3 0, eqPl h2 h4 0, trivial⟩
theorem all2s (s t : WStep) : [decide (s.1 = t.1), decide (s.2 = t.2)].all id = decide (s = t) := by
 rw [Bool.eq_iff_iff]
 simp [Prod.ext_iff]
theorem eqSt {H : Hp} {p q : Addr} {s t : WStep} (h1 : StA H p s) (h2 : StA H q t) : EqD H 2 (.ref p) (.ref q) (decide (s = t)) := by
 obtain ⟨a, b, e1, e2, e3⟩ := h1
 obtain ⟨a', b', f1, f2, f3⟩ := h2
 exact .inr ⟨p, q, _, _, _, rfl, rfl, .inl ⟨e1, f1⟩, e2St e2 e3 f2 f3, (all2s s t).symm⟩
theorem e3Pl {H : Hp} {q : Addr} {d : Int × Int} (h : PlA H q d) : ∀ {ps : List Addr} {cs : List (Int × Int)}, PlAt H ps cs → E3 (EqD H 1) (ps.map V.ref) ((ps.map V.ref).map fun _ => V.ref q) (cs.map fun c => decide (c = d))
 | [], [], .nil => trivial
 | _ :: _, _ :: _, .cons r t => ⟨eqPl r h 0, e3Pl h t⟩
theorem e3St {H : Hp} {q : Addr} {t : WStep} (h : StA H q t) : ∀ {qs : List Addr} {ss : List WStep}, StAt H qs ss → E3 (EqD H 2) (qs.map V.ref) ((qs.map V.ref).map fun _ => V.ref q) (ss.map fun s => decide (s = t))
 | [], [], .nil => trivial
 | _ :: _, _ :: _, .cons r z => ⟨eqSt r h, e3St h z⟩
theorem any_eq {α : Type} [DecidableEq α] (l : List α) (x : α) : (l.map fun c => decide (c = x)).any id = decide (x ∈ l) := by
 rw [Bool.eq_iff_iff, List.any_map]
 simp
end L2
namespace Wlk
open PySem PyProof.Rows Srt
noncomputable abbrev f2 (s : WStep) : List Int := fl [s.1, s.2]
noncomputable def unS (cs : List Pl) : WStep := (cs.getD 0 (0, 0), cs.getD 1 (0, 0))
noncomputable def Srtd (ss u : List WStep) : Prop := ss.Perm u ∧ ss.Pairwise fun a b => HT.lexLt (f2 b) (f2 a) = false
end Wlk
namespace M50
open PySem L2 PyProof.Rows Grd Wlk Srt
noncomputable def spAlong : Sp := fun vs H Q _ => ∃ t cs, vs = [.ref t] ∧ SqA H t cs ∧ cs.length ≤ 10 ∧ ∀ l qs ss H', H l = none → Same H H' → H' l = some (.lst ((qs : List Addr).map V.ref)) → StAt H' qs ss → Srtd ss (stepsU cs) → Q (.ref l) H'
theorem openS_len (land : List Pl) (c : Pl) : (openS land c).length ≤ 4 := by
 unfold openS
 rw [List.length_map]
 exact List.length_filter_le _ _
theorem stepsU_len (land : List Pl) : ∀ cs : List Pl, ((cs.map (openS land)).flatten).length ≤ 4 * cs.length
 | [] => by simp
 | c :: cs => by
  have := stepsU_len land cs
  have := openS_len land c
  rw [List.map_cons, List.flatten_cons, List.length_append, List.length_cons]
  omega
theorem srt_steps {H : Hp} {l : Addr} {qs : List Addr} {ss : List WStep} {Q : VK} (hl : H l = some (.lst (qs.map V.ref))) (hS : StAt H qs ss) (h40 : ss.length ≤ 40) (q : ∀ l9 qs' ss' H', H l9 = none → Same H H' → H' l9 = some (.lst ((qs' : List Addr).map V.ref)) → StAt H' qs' ss' → Srtd ss' ss → Q (.ref l9) H') :
  ∃ (p : Addr) (zs : List (Addr × List (Int × Int))), [V.ref l] = [.ref p] ∧ H p = some (.lst (zs.map fun z => V.ref z.1)) ∧ (∀ z ∈ zs, SqA H z.1 z.2 ∧ z.2 ≠ []) ∧ zs.length < 64 ∧ ∀ l zs', H l = none → SortedP zs zs' → Q (.ref l) (upd H l (.lst (zs'.map fun z => V.ref z.1))) := by
 have hzz : ∀ {qs : List Addr} {ss : List WStep}, StAt H qs ss → ∃ zs : List (Addr × List (Int × Int)), (zs.map fun z => z.1) = qs ∧ (zs.map fun z => z.2) = ss.map (fun s => [s.1, s.2]) ∧ ∀ z ∈ zs, SqA H z.1 z.2 ∧ z.2 ≠ [] := fun {qs ss} h => by
  induction h with
  | nil => exact ⟨[], rfl, rfl, fun z hz => by cases hz⟩
  | cons r t ih =>
   rename_i q s _ _
   obtain ⟨zs, i1, i2, i3⟩ := ih
   refine ⟨(q, [s.1, s.2]) :: zs, by rw [List.map_cons, i1], by rw [List.map_cons, i2]; rfl, fun z hz => ?_⟩
   rcases List.mem_cons.mp hz with e | e
   ·rw [e]; exact ⟨r.sq, by simp⟩
   ·exact i3 z e
 obtain ⟨zs, i1, i2, i3⟩ := hzz hS
 have un : ∀ z ∈ zs, ∃ s, z.2 = [s.1, s.2] ∧ unS z.2 = s := fun z hz => by
  have e2 : z.2 ∈ zs.map fun z => z.2 := List.mem_map.mpr ⟨z, hz, rfl⟩
  rw [i2] at e2
  obtain ⟨s, _, es⟩ := List.mem_map.mp e2
  exact ⟨s, es.symm, by rw [← es]; rfl⟩
 have hzl : zs.length ≤ 40 := by
  have h1 := congrArg List.length i2
  rw [List.length_map, List.length_map] at h1
  omega
 refine ⟨l, zs, rfl, by rw [hl, ← i1, List.map_map]; rfl, i3, by omega, fun l9 zs' hl9 so => ?_⟩
 have s9 := same_upd (o := .lst (zs'.map fun z => V.ref z.1)) hl9
 refine q l9 (zs'.map fun z => z.1) (zs'.map fun z => unS z.2) _ hl9 s9 (by rw [upd_same, List.map_map]; rfl) ?_ ⟨?_, ?_⟩
 ·have key : ∀ ys : List (Addr × List (Int × Int)), (∀ z ∈ ys, z ∈ zs) → StAt (upd H l9 (.lst (zs'.map fun z => V.ref z.1))) (ys.map fun z => z.1) (ys.map fun z => unS z.2) := fun ys => by
   induction ys with
   | nil => intro _; exact .nil
   | cons z ys ih =>
    intro hm
    refine .cons ?_ (ih fun y hy => hm y (List.mem_cons_of_mem _ hy))
    have hz := hm z List.mem_cons_self
    obtain ⟨s, e1, e2⟩ := un z hz
    show StA _ z.1 (unS z.2)
    rw [e2]
    have := (i3 z hz).1
    rw [e1] at this
    exact (StA.of this).same s9
  exact key zs' fun z hz => so.1.mem_iff.mp hz
 ·have h1 := (so.1.map fun z => z.2).map unS
  rw [i2, List.map_map, List.map_map] at h1
  refine h1.trans (List.Perm.of_eq ?_)
  have : (unS ∘ fun s : WStep => [s.1, s.2]) = id := rfl
  rw [this, List.map_id]
 ·rw [List.pairwise_map]
  refine so.2.imp_of_mem fun {a b} ha hb hab => ?_
  obtain ⟨s, e1, e2⟩ := un a (so.1.mem_iff.mp ha)
  obtain ⟨s', e1', e2'⟩ := un b (so.1.mem_iff.mp hb)
  rw [e1, e1'] at hab
  rw [e2, e2']
  exact hab
section
variable {P : Program} {w : World} {K : PySem.W.Frag} {mg : Str → Option Value} {base : Heap}
theorem scAlong : FnScope ["land"] ["land"] (defScope sAlong) := ⟨rfl, rfl, rfl, by decide +kernel, rfl, by decide +kernel, by decide +kernel⟩
theorem ndA : (["cell", "beyond", "step", "land"] : List Str).Nodup := by decide +kernel
theorem PaS {H : Hp} : ∀ {qs : List Addr} {bs : List (Pl × WStep)} {i : Nat} {q : Addr}, Paired (SideA H) qs bs → qs[i]? = some q → ∃ b, bs[i]? = some b ∧ SideA H q b
 | _, _, 0, _, .cons r _, h => by cases h; exact ⟨_, rfl, r⟩
 | _, _, i + 1, _, .cons _ t, h => PaS (i := i) t (by simpa using h)
theorem ok_along {f g1 : Addr} {fd d1 : FuncData} (F : Fun K "steps_along" "steps_along" sAlong f fd) (T2 : Txt2 mg) (a1 : At P w K mg base CX0 1 "sides_of" g1 d1 ["cell"] spSides) : FnOk P w K mg base CX0 2 f fd ["land"] spAlong := by
 refine F.ok scAlong (fun vs H Q E h => ?_) (fun cdv A outer s H vs Q E hr h => ?_)
 ·obtain ⟨t, cs, rfl, _⟩ := h; rfl
 ·obtain ⟨t, cs, rfl, ⟨ps, ht, hP⟩, h10, q⟩ := h
  have hlen : ps.length = cs.length := Paired.length hP
  refine ⟨_, pss_one (ps_ret (pe_callB (call_sortedP (huS_of hr)) rfl T2.sorted boot_sorted (pa_lc (pe_comp2 (defScope sAlong).names ["land"] ["cell", "beyond", "step"] [("land", 0)] rfl (pi_tup (pv 0)) rfl rfl rfl (by decide +kernel)
   (fun Z => pg_name (i := 0) ndA rfl (Or.inl rfl)) (fun Z => pts_nil)
   (fun Z => pi_list (pe_call a1.ok hr rfl a1.nm a1.kp a1.bd .nil pass0 (pa_v (pv 0) pa_nil))) (fun Z => pg_tup rfl (pgs_cons (pg_name (i := 1) ndA rfl (Or.inl rfl)) (pgs_cons (pg_name (i := 2) ndA rfl (Or.inl rfl)) pgs_nil)))
   (fun Z => pts_one (pt_cmpR (op_notInD 1 (hu1_of hr)) (pv 1) (pv 3) rfl)) (fun Z => pv 2)) pa_nil))), ?_⟩
  refine ⟨_, rfl, t, rfl, ⟨_, SqT.of ht⟩, fun Z l hl => ?_⟩
  refine for_tup (K := K) (a := t) (xs := ps.map V.ref) (fun i σ H' => (∃ o0 o1 o2, σ = [o0, o1, o2, some (.ref t)]) ∧ Same H H' ∧ ∃ qs, H' l = some (.lst (qs.map V.ref)) ∧ StAt H' qs (((cs.take i).map (openS cs)).flatten)) ⟨⟨_, _, _, rfl⟩, same_upd hl, [], by rw [upd_same]; rfl, .nil⟩ (fun i σ H' _ h => SqT.of (h.2.1 _ _ ht)) ?_ ?_
  ·rintro i x σ H' hx ⟨⟨o0, o1, o2, rfl⟩, hs, qs, hl', hS⟩
   obtain ⟨p, hp, rfl⟩ := getR hx
   obtain ⟨c, hc, he⟩ := hP.at hp
   have hi : i < ps.length := (List.getElem?_eq_some_iff.mp hp).1
   have hql : qs.length ≤ 4 * 10 := by
    have h1 : qs.length = _ := Paired.length hS
    have h2 := stepsU_len cs (cs.take i)
    rw [List.length_take] at h2
    omega
   refine body_name ?_
   refine ⟨_, rfl, p, c, rfl, hs _ _ he, fun l2 qs2 H2 hf2 s2 hl2 hB => ?_⟩
   refine ⟨l2, rfl, ⟨_, SqL.of hl2⟩, ?_⟩
   have hne : l2 ≠ l := fun z => by rw [z, hl'] at hf2; cases hf2
   have hl2' := s2 _ _ hl'
   have hS2 := hS.same s2
   refine for_list (K := K) (a := l2) (xs := qs2.map V.ref) (fun j σ H3 => (∃ o1 o2, σ = [some (.ref p), o1, o2, some (.ref t)]) ∧ Same H H3 ∧ H3 l2 = some (.lst (qs2.map V.ref)) ∧ Paired (SideA H3) qs2 (sidesP c) ∧ ∃ qs3, H3 l = some (.lst (qs3.map V.ref)) ∧ StAt H3 qs3 (((cs.take i).map (openS cs)).flatten ++ (((sidesP c).take j).filter fun b => !decide (b.1 ∈ cs)).map (·.2)) ∧ qs3.length ≤ 40 + j)
    ⟨⟨_, _, rfl⟩, hs.trans s2, hl2, hB, qs, hl2', by rw [List.take_zero, List.filter_nil, List.map_nil, List.append_nil]; exact hS2, by omega⟩ (fun j σ H3 _ h => SqL.of h.2.2.1) ?_ ?_
   ·rintro j x σ H3 hx ⟨⟨o1, o2, rfl⟩, hs3, hl3, hB3, qs3, hq3, hS3, hn3⟩
    obtain ⟨q2, hq2, rfl⟩ := getR hx
    obtain ⟨b, hb, hsd⟩ := PaS hB3 hq2
    obtain ⟨pb, st, e1, e2, e3⟩ := id hsd
    have hj : j < 4 := (List.getElem?_eq_some_iff.mp hb).1
    have et : ((sidesP c).take (j + 1)).filter (fun b => !decide (b.1 ∈ cs)) = ((sidesP c).take j).filter (fun b => !decide (b.1 ∈ cs)) ++ (if b.1 ∈ cs then [] else [b]) := by
     rw [List.take_succ, hb, List.filter_append]
     congr 1
     by_cases z : b.1 ∈ cs
     ·simp [z]
     ·simp [z]
    refine ⟨q2, _, rfl, SqT.of e1, rfl, _, _, rfl, _, _, rfl, rfl, ?_⟩
    refine ⟨_, rfl, _, rfl, t, _, _, rfl, .inl (hs3 _ _ ht), e3Pl e2 (hP.same hs3), _, rfl, ?_⟩
    rw [any_eq]
    refine iteB (fun z' => ?_) fun z' => ?_
    ·have z : b.1 ∉ cs := by simpa using z'
     refine ⟨_, rfl, _, hq3, small1000 (by rw [List.length_map]; omega), ⟨_, _, rfl⟩, fun b' u e' => ?_, ?_, Paired.mapP hB3 fun _ _ z => z.put hq3, qs3 ++ [st], ?_, ?_, ?_⟩
     ·rw [upd_ne (ne_of_none e' hl)]; exact hs3 _ _ e'
     ·rw [upd_ne hne]; exact hl3
     ·rw [upd_same, List.map_append]; rfl
     ·rw [et, if_neg z, List.map_append, ← List.append_assoc]
      exact (hS3.put hq3).snoc (e3.put hq3)
     ·rw [List.length_append]; show _ + 1 ≤ _; omega
    ·have z : b.1 ∈ cs := by simpa using z'
     refine ⟨⟨_, _, rfl⟩, hs3, hl3, hB3, qs3, hq3, ?_, by omega⟩
     rw [et, if_pos z, List.append_nil]
     exact hS3
   ·rintro σ H3 ⟨⟨o1', o2', rfl⟩, hs3, _, _, qs3, hq3, hS3, _⟩
    have hq4 : qs2.length = 4 := Paired.length hB
    rw [List.length_map, hq4] at hS3
    refine ⟨⟨_, _, _, rfl⟩, hs3, qs3, hq3, ?_⟩
    rw [List.take_succ, hc, List.map_append, List.flatten_append]
    have eo : ((Option.toList (some c)).map (openS cs)).flatten = openS cs c := by simp
    rw [eo]
    exact hS3
  ·rintro σ H' ⟨_, hs, qs, hl', hS⟩
   rw [List.length_map, hlen, List.take_of_length_le (Nat.le_refl _)] at hS
   refine srt_steps hl' hS (Nat.le_trans (stepsU_len cs cs) (by omega)) fun l9 qs' ss' H9 h9 s9 hl9 hS9 so => q l9 qs' ss' H9 (hs.free h9) (hs.trans s9) hl9 hS9 so
end
end M50
namespace L2
open PySem PySem.Spec PyProof.Rows Grd Wlk
theorem comp_flt {α : Type} {R : Hp → Addr → α → Prop} (rS : ∀ {H H' a x}, Same H H' → R H a x → R H' a x) (rP : ∀ {H l xs ys a x}, H l = some (.lst xs) → R H a x → R (upd H l (.lst ys)) a x) {J : It} {S : Hp → Prop} {l : Addr} {bs : List Addr} {cl : List α} {tt : TT} {H0 : Hp} {rest : St} {Q : St → Hp → Prop} (p : α → Bool) (W : Wk J (bs.map V.ref) S) (hS : ∀ H', Same H0 H' → S H') (hC : Paired (R H0) bs cl) (hl : H0 l = none) (hz : bs.length ≤ 1000)
  (tst : ∀ b c H' Q', R H' b c → c ∈ cl → Same H0 H' → (∀ H2, Same H' H2 → Q' (p c) H2) → tt (some (.ref b) :: rest) H' Q')
  (hQ : ∀ σ H' bs', Same H0 H' → H' l = some (.lst ((bs' : List Addr).map V.ref)) → Paired (R H') bs' (cl.filter p) → Q σ H') :
  tForJ J (gName 0) (tBodyC tt (tEmit l (tVar 0))) (eC Q) (none :: rest) (upd H0 l (.lst [])) := by
 have hlen : bs.length = cl.length := Paired.length hC
 have get : ∀ {bs : List Addr} {cl : List α} {i : Nat} {b : Addr}, Paired (R H0) bs cl → bs[i]? = some b → ∃ c, cl[i]? = some c ∧ R H0 b c := fun {bs cl i b} h => by
  induction h generalizing i with
  | nil => intro z; simp at z
  | cons r t ih =>
   intro z
   cases i with
   | zero => cases z; exact ⟨_, rfl, r⟩
   | succ i => exact ih (by simpa using z)
 refine W (fun i σ H' => (∃ x, σ = x :: rest) ∧ Same H0 H' ∧ ∃ bs' : List Addr, H' l = some (.lst (bs'.map V.ref)) ∧ Paired (R H') bs' ((cl.take i).filter p)) ⟨⟨_, rfl⟩, same_upd hl, [], by rw [upd_same]; rfl, .nil⟩ (fun i σ H' _ h => hS _ h.2.1) ?_ ?_
 ·rintro i x σ H' hx ⟨⟨x0, rfl⟩, hs, bs', hl', hP⟩
  obtain ⟨b, hb, rfl⟩ := getR hx
  obtain ⟨c, hc, he⟩ := get hC hb
  have hi : i < bs.length := (List.getElem?_eq_some_iff.mp hb).1
  have et : (cl.take (i + 1)).filter p = (cl.take i).filter p ++ (if p c = true then [c] else []) := by
   rw [List.take_succ, hc, List.filter_append]
   congr 1
   by_cases z : p c = true
   ·simp [z]
   ·simp [z]
  have hfl := List.length_filter_le p (cl.take i)
  rw [List.length_take] at hfl
  have hbl := Paired.length hP
  refine tst b c H' _ (rS hs he) (List.mem_of_getElem? hc) hs fun H2 h2 => ?_
  have hl2 := h2 _ _ hl'
  refine iteB (fun hz' => ?_) fun hz' => ?_
  ·refine ⟨_, rfl, _, hl2, small1000 (by rw [List.length_map]; omega), ⟨_, rfl⟩, fun b2 u e => ?_, bs' ++ [b], ?_, ?_⟩
   ·rw [upd_ne (ne_of_none e hl)]; exact h2 _ _ (hs _ _ e)
   ·rw [upd_same, List.map_append]; rfl
   ·rw [et, if_pos hz']
    exact Paired.snoc (Paired.mapP hP fun _ _ e => rP hl2 (rS h2 e)) (rP hl2 (rS h2 (rS hs he)))
  ·refine ⟨⟨_, rfl⟩, hs.trans h2, bs', hl2, ?_⟩
   rw [et, if_neg (by rw [hz']; decide), List.append_nil]
   exact Paired.mapP hP fun _ _ e => rS h2 e
 ·rintro σ H' ⟨_, hs, bs', hl', hP⟩
  rw [List.length_map, hlen, List.take_of_length_le (Nat.le_refl _)] at hP
  exact hQ σ H' bs' hs hl' hP
end L2
namespace M50
open PySem L2 PyProof.Rows Grd Wlk
noncomputable abbrev sBehind : Stmt := top 33
noncomputable abbrev sFrom : Stmt := top 34
noncomputable def StL (H : Hp) (l : Addr) (ss : List WStep) : Prop := ∃ qs : List Addr, H l = some (.lst (qs.map V.ref)) ∧ StAt H qs ss
theorem StL.same {H H' : Hp} {l : Addr} {ss : List WStep} (h : StL H l ss) (s : Same H H') : StL H' l ss := let ⟨qs, h1, h2⟩ := h; ⟨qs, s _ _ h1, h2.same s⟩
noncomputable def spBehind : Sp := fun vs H Q _ => ∃ l q ss s, vs = [.ref l, .ref q] ∧ StL H l ss ∧ ss.length ≤ 40 ∧ StA H q s ∧ ((s.2, rtS s) ∉ ss → ∃ u, fromB ss s.2 = [u]) ∧ ∀ q' H', Same H H' → StA H' q' (nxt ss s) → Q (.ref q') H'
section
variable {P : Program} {w : World} {K : PySem.W.Frag} {mg : Str → Option Value} {base : Heap}
noncomputable abbrev nBe : List Str := ["steps", "step", "row", "column", "to_row", "to_column", "right"]
theorem scBehind : FnScope nBe ["steps", "step"] (defScope sBehind) := ⟨rfl, rfl, rfl, by decide +kernel, rfl, by decide +kernel, by decide +kernel⟩
theorem ndOS : (["other", "step"] : List Str).Nodup := by decide +kernel
theorem ok_behind {f : Addr} {fd : FuncData} (F : Fun K "step_behind" "step_behind" sBehind f fd) : FnOk P w K mg base CX0 1 f fd ["steps", "step"] spBehind := by
 refine F.ok scBehind (fun vs H Q E h => ?_) (fun cdv A outer s H vs Q E hr h => ?_)
 ·obtain ⟨l, q, ss, st, rfl, _⟩ := h; rfl
 ·obtain ⟨l, qa, ss, st, rfl, ⟨qs, hl, hS⟩, h40, hq, hone, q⟩ := h
  have nd := scBehind.nd
  have hlen : qs.length = ss.length := Paired.length hS
  refine ⟨_, pss_cons (ps_asg (pv 1) (pg_tup rfl (pgs_cons (pg_tup rfl (pgs_cons (pg_name (i := 2) nd rfl (Or.inl rfl)) (pgs_cons (pg_name (i := 3) nd rfl (Or.inl rfl)) pgs_nil))) (pgs_cons (pg_tup rfl (pgs_cons (pg_name (i := 4) nd rfl (Or.inl rfl)) (pgs_cons (pg_name (i := 5) nd rfl (Or.inl rfl)) pgs_nil))) pgs_nil)))) <|
   pss_cons (ps_set (i := 6) nd rfl (Or.inl rfl) (pe_tup (pa_b (pe_op op_sub (pe_op op_add (pv 4) (pv 5)) (pv 3)) (pa_b (pe_op op_sub (pe_op op_add (pv 5) (pv 2)) (pv 4)) pa_nil)))) <|
   pss_cons (ps_if (pt_cmpR (op_inD 2 (hu2_of hr)) (pe_tup (pa_s (pe_ix ix_tup (pv 1) pe_int (fun _ _ => rfl)) (pa_v (pv 6) pa_nil))) (pv 0) rfl) (pss_one (ps_ret (pe_tup (pa_s (pe_ix ix_tup (pv 1) pe_int (fun _ _ => rfl)) (pa_v (pv 6) pa_nil))))) pss_nil) <|
   pss_one (ps_ret (pe_ix ix_list (pe_comp1 (defScope sBehind).names nBe ["other"] [("step", 1)] rfl (pi_list (pv 0)) rfl rfl rfl (by decide +kernel)
    (fun Z => pg_name (i := 0) ndOS rfl (Or.inl rfl)) (fun Z => pts_one (pt_cmpR (op_eqD 0 (hu_of hr)) (pe_ix ix_tup (pv 0) pe_int (fun _ _ => rfl)) (pe_ix ix_tup (pv 1) pe_int (fun _ _ => rfl)) (nomark _))) (fun Z => pv 0)) pe_int (fun _ _ => rfl))), ?_⟩
  obtain ⟨a, b, e1, e2, e3⟩ := hq
  obtain ⟨⟨r, c⟩, ⟨tr, tc⟩⟩ := st
  refine ⟨_, rfl, qa, _, rfl, SqT.of e1, rfl, _, _, rfl, ⟨a, _, rfl, SqT.of e2, rfl, _, _, rfl, _, _, rfl, rfl, ?_⟩⟩
  refine ⟨_, _, rfl, b, _, rfl, SqT.of e3, rfl, _, _, rfl, _, _, rfl, rfl, rfl, ?_⟩
  refine ⟨_, rfl, _, rfl, _, _, rfl, rfl, _, rfl, _, _, rfl, rfl, _, rfl, _, rfl, _, _, rfl, rfl, _, rfl, _, _, rfl, rfl, by show 2 ≤ sizeLine; decide, fun pr hpr => ?_⟩
  have s1 := same_upd (o := .tup [.int (tr + tc - c), .int (tc + r - tr)]) hpr
  have er : PlA (upd H pr (.tup [.int (tr + tc - c), .int (tc + r - tr)])) pr (rtS ((r, c), (tr, tc))) := upd_same
  have l1 := s1 _ _ hl
  have S1 := hS.same s1
  generalize upd H pr (.tup [.int (tr + tc - c), .int (tc + r - tr)]) = H1 at s1 er l1 S1
  refine ⟨_, rfl, qa, _, 1, .ref b, rfl, rfl, SqT.of (s1 _ _ e1), atI_nat (j := 1) rfl, _, rfl, by show 2 ≤ sizeLine; decide, fun pn hpn => ?_⟩
  have s2 := same_upd (o := .tup [.ref b, .ref pr]) hpn
  have en : StA (upd H1 pn (.tup [.ref b, .ref pr])) pn ((tr, tc), rtS ((r, c), (tr, tc))) := ⟨b, pr, upd_same, s2 _ _ (s1 _ _ e3), s2 _ _ er⟩
  have l2 := s2 _ _ l1
  have S2 := S1.same s2
  have er2 := s2 _ _ er
  generalize upd H1 pn (.tup [.ref b, .ref pr]) = H2 at s2 en l2 S2 er2
  have s12 := s1.trans s2
  refine ⟨_, rfl, l, _, _, rfl, .inr l2, e3St en S2, _, rfl, ?_⟩
  rw [any_eq]
  refine iteB (fun z' => ?_) fun z' => ?_
  ·have z : ((tr, tc), rtS ((r, c), (tr, tc))) ∈ ss := by simpa using z'
   refine ⟨_, rfl, qa, _, 1, .ref b, rfl, rfl, SqT.of (s12 _ _ e1), atI_nat (j := 1) rfl, _, rfl, by show 2 ≤ sizeLine; decide, fun pm hpm => ?_⟩
   have s3 := same_upd (o := .tup [.ref b, .ref pr]) hpm
   refine q pm _ (s12.trans s3) ?_
   unfold nxt
   rw [if_pos z]
   exact ⟨b, pr, upd_same, s3 _ _ (s12 _ _ e3), s3 _ _ er2⟩
  ·have z : ((tr, tc), rtS ((r, c), (tr, tc))) ∉ ss := by simpa using z'
   obtain ⟨u, hu⟩ := hone z
   refine ⟨_, rfl, l, rfl, ⟨_, SqL.of l2⟩, fun Z l3 hl3 => ?_⟩
   refine comp_flt (R := StA) (fun s h => h.same s) (fun hl h => h.put hl) (fun o => decide (o.1 = (tr, tc))) wk_list (fun H' hs => SqL.of (hs _ _ l2)) S2 hl3 (by omega) (fun p o H' Q' ho _ hs hq' => ?_) fun σ H3 qs' s3 hl3' hF => ?_
   ·obtain ⟨a', b', f1, f2, f3⟩ := ho
    refine ⟨_, rfl, p, _, 0, .ref a', rfl, rfl, SqT.of f1, atI_nat (j := 0) rfl, _, rfl, qa, _, 1, .ref b, rfl, rfl, SqT.of (hs _ _ (s12 _ _ e1)), atI_nat (j := 1) rfl, ?_⟩
    refine ⟨a', b, _, _, _, rfl, rfl, .inl ⟨f2, hs _ _ (s12 _ _ e3)⟩, e2Pl, _, rfl, ?_⟩
    rw [id, L2.all2]
    exact hq' _ (Same.refl _)
   ·have hF' : Paired (StA H3) qs' [u] := by
     have : ss.filter (fun o => decide (o.1 = (tr, tc))) = [u] := hu
     rw [this] at hF; exact hF
    cases hF' with
    | cons r0 t0 =>
     cases t0
     refine ⟨l3, _, 0, _, rfl, rfl, SqL.of hl3', atI_nat (j := 0) rfl, ?_⟩
     refine q _ H3 (s12.trans s3) ?_
     unfold nxt
     rw [if_neg z]
     show StA H3 _ ((fromB ss (tr, tc)).headD _)
     rw [show fromB ss (tr, tc) = [u] from hu]
     exact r0
end
end M50
namespace Wlk
open PySem PyProof.Rows Srt Cyc Grd
noncomputable def rc (s : WStep) : Pl := if s.2.2 = s.1.2 + 1 then s.1 else if s.2.1 = s.1.1 + 1 then (s.1.1, s.1.2 - 1) else if s.2.2 = s.1.2 - 1 then (s.1.1 - 1, s.1.2 - 1) else (s.1.1 - 1, s.1.2)
theorem rc_open {land : List Pl} {c : Pl} {s : WStep} (h : s ∈ openS land c) : rc s = c := by
 unfold openS sidesP at h
 obtain ⟨b, hb, rfl⟩ := List.mem_map.mp h
 have h1 := (List.mem_filter.mp hb).1
 obtain ⟨x, y⟩ := c
 simp only [List.mem_cons, List.not_mem_nil, or_false] at h1
 rcases h1 with rfl | rfl | rfl | rfl
 ·unfold rc; rw [if_pos rfl]
 ·unfold rc
  rw [if_neg (by show ¬ y + 1 = y + 1 + 1; omega), if_pos rfl]
  show (x, y + 1 - 1) = (x, y)
  rw [Int.add_sub_cancel]
 ·unfold rc
  rw [if_neg (by show ¬ y = y + 1 + 1; omega), if_neg (by show ¬ x + 1 = x + 1 + 1; omega), if_pos (by show y = y + 1 - 1; omega)]
  show (x + 1 - 1, y + 1 - 1) = (x, y)
  rw [Int.add_sub_cancel, Int.add_sub_cancel]
 ·unfold rc
  rw [if_neg (by show ¬ y = y + 1; omega), if_neg (by show ¬ x = x + 1 + 1; omega), if_neg (by show ¬ y = y - 1; omega)]
  show (x + 1 - 1, y) = (x, y)
  rw [Int.add_sub_cancel]
theorem open_nd (land : List Pl) (c : Pl) : (openS land c).Nodup := by
 have h : ((sidesP c).map (·.2)).Nodup := by
  obtain ⟨x, y⟩ := c
  unfold sidesP
  simp only [List.map_cons, List.map_nil, List.nodup_cons, List.mem_cons, List.not_mem_nil, or_false, Prod.mk.injEq, not_or, not_and]
  refine ⟨⟨?_, ?_, ?_⟩, ⟨?_, ?_⟩, ?_, ?_⟩ <;> intros <;> (try omega) <;> simp
 exact h.sublist (List.filter_sublist.map _)
theorem stepsU_nd {land : List Pl} (h : land.Nodup) : (stepsU land).Nodup := by
 unfold stepsU
 rw [List.nodup_iff_pairwise_ne, List.pairwise_flatten]
 refine ⟨fun l hl => ?_, ?_⟩
 ·obtain ⟨c, _, rfl⟩ := List.mem_map.mp hl
  exact List.nodup_iff_pairwise_ne.mp (open_nd land c)
 ·rw [List.pairwise_map]
  refine (List.nodup_iff_pairwise_ne.mp h).imp fun {c d} hcd x hx y hy e => ?_
  subst e
  exact hcd ((rc_open hx).symm.trans (rc_open hy))
theorem lex_irr' (x : List Int) : HT.lexLt x x = false := lex_irr x
theorem up_nd {cs : List Pl} (h : cs.Pairwise ltP) : cs.Nodup := by
 rw [List.nodup_iff_pairwise_ne]
 refine h.imp fun {a b} hab e => ?_
 subst e
 unfold ltP at hab
 rw [lex_irr'] at hab; cases hab
section
variable {land : List Pl} {ss : List WStep}
theorem of_srt (hn : land.Nodup) (h : Srtd ss (stepsU land)) : Of land ss := ⟨fun s => h.1.mem_iff, (h.1.nodup_iff).mpr (stepsU_nd hn)⟩
theorem f2_inj {a b : WStep} (h : f2 a = f2 b) : a = b := by
 have := fl_inj h
 injection this with h1 h2
 injection h2 with h2 _
 exact Prod.ext h1 h2
theorem sorted_one {α : Type} (k : α → List Int) (inj : ∀ a b, k a = k b → a = b) : ∀ {l l' : List α}, l.Perm l' → l.Pairwise (fun a b => HT.lexLt (k b) (k a) = false) → l'.Pairwise (fun a b => HT.lexLt (k b) (k a) = false) → l = l'
 | [], l', h, _, _ => (List.Perm.nil_eq h)
 | a :: l, [], h, _, _ => by have := h.length_eq; simp at this
 | a :: l, b :: l', h, h1, h2 => by
  have h1' := List.pairwise_cons.mp h1
  have h2' := List.pairwise_cons.mp h2
  have e : a = b := by
   have ha : a ∈ b :: l' := h.mem_iff.mp List.mem_cons_self
   have hb : b ∈ a :: l := h.mem_iff.mpr List.mem_cons_self
   rcases List.mem_cons.mp ha with z | z
   ·exact z
   ·rcases List.mem_cons.mp hb with y | y
    ·exact y.symm
    ·exact inj _ _ (lex_tot (h2'.1 a z) (h1'.1 b y))
  subst e
  rw [sorted_one k inj (List.Perm.cons_inv h) h1'.2 h2'.2]
theorem srtd_one {s' : List WStep} {u : List WStep} (h : Srtd ss u) (h' : Srtd s' u) : ss = s' := sorted_one f2 (fun _ _ => f2_inj) (h.1.trans h'.1.symm) h.2 h'.2
theorem Of.rnd (h : Of land ss) : Rnd ss (nxt ss) := ⟨h.nd, fun s hs => (h.nxt_mem hs).1, fun s hs t ht e => h.nxt_inj hs ht e⟩
noncomputable def gone (ss : List WStep) : List (List WStep) × List WStep := ss.foldl (stF (orb (nxt ss))) ([], [])
noncomputable def stones (o : List WStep) : List Pl := o.map (·.1)
noncomputable def walksP (ss : List WStep) : List (List Pl) := (gone ss).1.map stones
theorem stones_two (h : Of land ss) {s : WStep} (hs : s ∈ ss) : ∃ r, stones (orb (nxt ss) s) = s.1 :: s.2 :: r := by
 have p := (h.rnd).per_is hs
 have h2 : 2 ≤ per (nxt ss) s := by
  have h1 := p.1
  apply Classical.byContradiction
  intro z
  have e : per (nxt ss) s = 1 := by omega
  have := p.2.1
  rw [e] at this
  have h3 := (h.nxt_mem hs).2
  have h4 : nxt ss s = s := this
  rw [h4] at h3
  exact h.ne hs h3
 obtain ⟨m, hm⟩ : ∃ m, per (nxt ss) s = 1 + (1 + m) := ⟨per (nxt ss) s - 2, by omega⟩
 unfold stones orb
 rw [hm, List.range_add, List.range_add]
 simp only [List.map_append, List.map_map]
 refine ⟨List.map ((fun x => x.1) ∘ (fun i => it (nxt ss) i s) ∘ (fun x => 1 + x) ∘ fun x => 1 + x) (List.range m), ?_⟩
 show s.1 :: (nxt ss s).1 :: _ = _
 rw [(h.nxt_mem hs).2]
 rfl
theorem walks_ne (hn : land.Nodup) (h : Srtd ss (stepsU land)) : ∀ w ∈ walksP ss, w ≠ [] := by
 have O := of_srt hn h
 obtain ⟨ts, h1, h2⟩ := (got_all O.rnd).hd
 intro w hw
 unfold walksP gone at hw
 rw [h2, List.map_map] at hw
 obtain ⟨s, hs, rfl⟩ := List.mem_map.mp hw
 obtain ⟨r, e⟩ := stones_two O (h1.subset hs)
 show stones _ ≠ []
 rw [e]; simp
theorem walks_sum (hn : land.Nodup) (h : Srtd ss (stepsU land)) : ((walksP ss).map List.length).sum = ss.length := by
 have := sum_len (of_srt hn h).rnd
 unfold walksP gone
 rw [List.map_map]
 have e : (List.length ∘ stones) = List.length := by funext o; exact List.length_map _
 rw [e]; exact this
end
end Wlk
namespace M50
open PySem L2 PyProof.Rows Grd Wlk Cyc
noncomputable abbrev sWalks : Stmt := top 35
noncomputable abbrev sWalksOf : Stmt := top 36
noncomputable abbrev sRound : Stmt := top 37
noncomputable def spFrom : Sp := fun vs H Q _ => ∃ l q land ss s, vs = [.ref l, .ref q] ∧ StL H l ss ∧ ss.length ≤ 40 ∧ Of land ss ∧ s ∈ ss ∧ StA H q s ∧ ∀ l' qs H', H l' = none → Same H H' → H' l' = some (.lst ((qs : List Addr).map V.ref)) → StAt H' qs (orb (nxt ss) s) → Q (.ref l') H'
noncomputable def WkP (H : Hp) (ws : List Addr) (o : List (List Pl)) : Prop := Paired (SqA H) ws o
noncomputable def WkL (H : Hp) (l : Addr) (o : List (List Pl)) : Prop := ∃ ws : List Addr, H l = some (.lst (ws.map V.ref)) ∧ WkP H ws o
theorem sqPut {H : Hp} {l : Addr} {xs ys : List V} (hl : H l = some (.lst xs)) {a : Addr} {cs : List Pl} (h : SqA H a cs) : SqA (upd H l (.lst ys)) a cs := let ⟨ps, h1, h2⟩ := h; ⟨ps, tupPut hl h1, Paired.mapP h2 fun _ _ z => PlA.put hl z⟩
noncomputable def spWalks : Sp := fun vs H Q _ => ∃ t cs, vs = [.ref t] ∧ SqA H t cs ∧ cs.length ≤ 10 ∧ cs.Nodup ∧ ∀ l ws ss H', H l = none → Same H H' → H' l = some (.lst ((ws : List Addr).map V.ref)) → Srtd ss (stepsU cs) → WkP H' ws (walksP ss) → Q (.ref l) H'
noncomputable def spWalksOf : Sp := fun vs H Q _ => ∃ a t g w cs, vs = [.ref a, .ref t] ∧ GridAt H a g ∧ Good g w ∧ SqA H t cs ∧ LandOf g cs ∧ ∀ l ws ss H', H l = none → Same H H' → H' l = some (.lst ((ws : List Addr).map V.ref)) → Srtd ss (stepsU cs) → WkP H' ws (walksP ss) → Q (.ref l) H'
noncomputable def spRound : Sp := fun vs H Q _ => ∃ a t g w cs, vs = [.ref a, .ref t] ∧ GridAt H a g ∧ Good g w ∧ SqA H t cs ∧ LandOf g cs ∧ ∀ H', Same H H' → Q (.int ((stepsU cs).length : Nat)) H'
section
variable {P : Program} {w : World} {K : PySem.W.Frag} {mg : Str → Option Value} {base : Heap}
noncomputable abbrev nFr : List Str := ["steps", "first", "walked", "step"]
theorem scFrom : FnScope nFr ["steps", "first"] (defScope sFrom) := ⟨rfl, rfl, rfl, by decide +kernel, rfl, by decide +kernel, by decide +kernel⟩
theorem ok_from {f g1 : Addr} {fd d1 : FuncData} (F : Fun K "steps_from" "steps_from" sFrom f fd) (a1 : At P w K mg base CX0 1 "step_behind" g1 d1 ["steps", "step"] spBehind) : FnOk P w K mg base CX0 2 f fd ["steps", "first"] spFrom := by
  refine F.ok scFrom (fun vs H Q E h => ?_) (fun cdv A outer s H vs Q E hr h => ?_)
  · obtain ⟨l, q, land, ss, s, rfl, _⟩ := h; rfl
  · obtain ⟨l, qa, land, ss, st, rfl, hL, h40, O, hst, hq, q⟩ := h
    have nd := scFrom.nd
    have R := O.rnd
    have p := R.per_is hst
    have hper : per (nxt ss) st ≤ 40 := by
      have h1 := sub_len (R.orb_nd hst) (R.orb_sub hst)
      rw [orb_len] at h1
      omega
    refine ⟨_, pss_cons (ps_set (i := 2) nd rfl (Or.inl rfl) (pe_lst (pa_v (pv 1) pa_nil))) <|
      pss_cons (ps_set (i := 3) nd rfl (Or.inl rfl) (pe_call a1.ok hr rfl a1.nm a1.kp a1.bd .nil pass0 (pa_v (pv 0) (pa_v (pv 1) pa_nil)))) <|
      pss_cons (ps_while PassesOwn.never (pt_cmpR (op_neD 1 (hu1_of hr)) (pv 3) (pv 1) (nomark _))
        (pss_cons (ps_expr (pe_bm PySem.F.plainAttrs_list PySem.F.slot_list_append PySem.F.type_list_append mt_append (pv 2) (pa_v (pv 3) pa_nil))) <|
         pss_one (ps_set (i := 3) nd rfl (Or.inl rfl) (pe_call a1.ok hr rfl a1.nm a1.kp a1.bd .nil pass0 (pa_v (pv 0) (pa_v (pv 3) pa_nil)))))) <|
      pss_one (ps_ret (pv 2)), ?_⟩
    refine ⟨_, rfl, by show 1 ≤ sizeLine; decide, fun lw hlw => ?_⟩
    have s0 := same_upd (o := .lst [.ref qa]) hlw
    refine ⟨_, rfl, _, rfl, l, qa, ss, st, rfl, hL.same s0, h40, hq.same s0, (fun y => let ⟨u, h1, _⟩ := O.one hst y; ⟨u, h1⟩), fun q1 H1 s1 hq1 => ?_⟩
    refine ⟨fun m σ H' => ∃ k qk qs, m + k = per (nxt ss) st ∧ 1 ≤ k ∧ σ = [some (.ref l), some (.ref qa), some (.ref lw), some (.ref qk)] ∧ Same H H' ∧ H' lw = some (.lst ((qs : List Addr).map V.ref)) ∧ StAt H' qs ((orb (nxt ss) st).take k) ∧ StA H' qk (it (nxt ss) k st),
      ⟨per (nxt ss) st - 1, 1, q1, [qa], by have := p.1; omega, Nat.le_refl _, rfl, s0.trans s1, s1 _ _ upd_same, ?_, hq1⟩, ?_⟩
    · have := orb_take (f := nxt ss) st 0 p.1
      rw [List.take_zero, List.nil_append] at this
      rw [this]
      exact .cons ((hq.same s0).same s1) .nil
    · rintro m σ H' ⟨k, qk, qs, hk, k1, rfl, hs, hlw', hS, hqk⟩
      obtain ⟨a, b, e1, e2, e3⟩ := hq.same hs
      obtain ⟨a', b', f1, f2, f3⟩ := id hqk
      refine ⟨_, rfl, _, rfl, qk, qa, _, _, _, rfl, rfl, .inl ⟨f1, e1⟩, e2St f2 f3 e2 e3, _, rfl, ?_⟩
      rw [all2s]
      have hmem := R.it_mem hst k
      refine iteB (fun z' => ?_) fun z' => ?_
      · have z : it (nxt ss) k st ≠ st := by simpa using z'
        have hkp : k < per (nxt ss) st := by
          rcases Nat.lt_or_ge k (per (nxt ss) st) with y | y
          · exact y
          · have : k = per (nxt ss) st := by omega
            rw [this, p.2.1] at z
            exact absurd rfl z
        have hql : qs.length ≤ 40 := by
          have h1 : qs.length = _ := Paired.length hS
          rw [List.length_take] at h1; omega
        refine ⟨fun σ' H2 => ∃ qk' qs', σ' = [some (.ref l), some (.ref qa), some (.ref lw), some (.ref qk')] ∧ Same H H2 ∧ H2 lw = some (.lst ((qs' : List Addr).map V.ref)) ∧ StAt H2 qs' ((orb (nxt ss) st).take (k + 1)) ∧ StA H2 qk' (it (nxt ss) (k + 1) st),
          fun σ' H2 ⟨qk', qs', h1, h2, h3, h4, h5⟩ => ⟨m - 1, by omega, k + 1, qk', qs', by omega, by omega, h1, h2, h3, h4, h5⟩, ?_⟩
        refine ⟨_, rfl, .inl ⟨rfl, _, SqL.of hlw'⟩, _, rfl, lw, _, _, rfl, rfl, hlw', small1000 (by rw [List.length_map]; omega), ?_⟩
        have sp : Same H (upd H' lw (.lst (qs.map V.ref ++ [.ref qk]))) := fun b' u e' => by rw [upd_ne (ne_of_none e' hlw)]; exact hs _ _ e'
        have hS' := (hS.put (ys := qs.map V.ref ++ [.ref qk]) hlw').snoc (hqk.put (ys := qs.map V.ref ++ [.ref qk]) hlw')
        refine ⟨_, rfl, _, rfl, l, qk, ss, _, rfl, hL.same sp, h40, hqk.put hlw', (fun y => let ⟨u, h1, _⟩ := O.one hmem y; ⟨u, h1⟩), fun q2 H2 s2 hq2 => ?_⟩
        refine ⟨q2, qs ++ [qk], rfl, sp.trans s2, s2 _ _ (by rw [upd_same, List.map_append]; rfl), ?_, hq2⟩
        rw [orb_take st k hkp]
        exact hS'.same s2
      · have z : it (nxt ss) k st = st := by simpa using z'
        have hkp : k = per (nxt ss) st := by
          rcases Nat.lt_or_ge k (per (nxt ss) st) with y | y
          · exact absurd z (p.2.2 k k1 y)
          · omega
        rw [List.take_of_length_le (by rw [orb_len]; omega)] at hS
        exact ⟨_, rfl, q lw qs H' hlw hs hlw' hS⟩
end
end M50
namespace L2
open PySem PySem.Spec PyProof.Rows Grd Wlk
theorem comp_startS {K : PySem.W.Frag} {a l : Addr} {qs : List Addr} {ss : List WStep} {H0 : Hp} {Q : St → Hp → Prop} (ha : H0 a = some (.lst (qs.map V.ref))) (hC : StAt H0 qs ss) (hl : H0 l = none) (hz : qs.length ≤ 1000)
  (hQ : ∀ σ H' ps, Same H0 H' → H' l = some (.lst ((ps : List Addr).map V.ref)) → PlAt H' ps (stones ss) → Q σ H') :
  tForJ (Itl K a) (gTup K 2 (gCons (gName 0) (gCons (gName 1) gNil))) (tBodyC tAll (tEmit l (tVar 0))) (eC Q) [none, none] (upd H0 l (.lst [])) := by
 have hlen : qs.length = ss.length := Paired.length hC
 refine for_list (K := K) (a := a) (xs := qs.map V.ref) (fun i σ H' => σ.length = 2 ∧ Same H0 H' ∧ ∃ ps : List Addr, H' l = some (.lst (ps.map V.ref)) ∧ PlAt H' ps (stones (ss.take i))) ⟨rfl, same_upd hl, [], by rw [upd_same]; rfl, .nil⟩ (fun i σ H' _ h => SqL.of (h.2.1 _ _ ha)) ?_ ?_
 ·rintro i x σ H' hx ⟨hσ, hs, ps, hl', hP⟩
  match σ, hσ with
  | [x0, x1], _ =>
  obtain ⟨q, hq, rfl⟩ := getR hx
  obtain ⟨s, hs', f, t, e1, e2, e3⟩ := hC.at hq
  have hi : i < qs.length := (List.getElem?_eq_some_iff.mp hq).1
  have hpl : ps.length ≤ i := by
   have h1 : ps.length = _ := Paired.length hP
   unfold stones at h1
   rw [List.length_map, List.length_take] at h1; omega
  refine ⟨q, _, rfl, SqT.of (hs _ _ e1), rfl, _, _, rfl, _, _, rfl, rfl, ?_⟩
  refine body_all ?_
  refine ⟨_, rfl, _, hl', small1000 (by rw [List.length_map]; omega), rfl, fun b' u e' => ?_, ps ++ [f], ?_, ?_⟩
  ·rw [upd_ne (ne_of_none e' hl)]; exact hs _ _ e'
  ·rw [upd_same, List.map_append]; rfl
  ·unfold stones at hP ⊢
   rw [List.take_succ, hs', List.map_append]
   exact PlAt.snoc (Paired.mapP hP fun _ _ z => PlA.put hl' z) (PlA.put hl' (hs _ _ e2))
 ·rintro σ H' ⟨_, hs, ps, hl', hP⟩
  rw [List.length_map, hlen, List.take_of_length_le (Nat.le_refl _)] at hP
  exact hQ σ H' ps hs hl' hP
end L2
namespace M50
open PySem L2 PyProof.Rows Grd Wlk Cyc
section
variable {P : Program} {w : World} {K : PySem.W.Frag} {mg : Str → Option Value} {base : Heap}
noncomputable abbrev nWa : List Str := ["land", "steps", "walks", "walked", "step", "behind"]
theorem scWalks : FnScope nWa ["land"] (defScope sWalks) := ⟨rfl, rfl, rfl, by decide +kernel, rfl, by decide +kernel, by decide +kernel⟩
theorem ndSE : (["start", "end"] : List Str).Nodup := by decide +kernel
theorem le_sum : ∀ {l : List Nat} {x : Nat}, x ∈ l → x ≤ l.sum
 | a :: l, x, h => by
  rw [List.sum_cons]
  rcases List.mem_cons.mp h with e | e
  ·omega
  ·have := le_sum e; omega
theorem fold_take {α β : Type} (g : β → α → β) (b : β) (l : List α) (i : Nat) (x : α) (h : l[i]? = some x) : (l.take (i + 1)).foldl g b = g ((l.take i).foldl g b) x := by
 rw [List.take_succ, h, List.foldl_append]; rfl
theorem got_take {l : List WStep} {f : WStep → WStep} (R : Rnd l f) (i : Nat) : Got l f (l.take i) ((l.take i).foldl (stF (orb f)) ([], [])) := by
 have := Got.fold R (l.take i) [] ([], []) Got.nil fun x hx => List.mem_of_mem_take hx
 rwa [List.nil_append] at this
theorem ok_walks {f g1 g2 : Addr} {fd d1 d2 : FuncData} (F : Fun K "walks_along" "walks_along" sWalks f fd) (T : Txt mg) (a1 : At P w K mg base CX0 2 "steps_along" g1 d1 ["land"] spAlong) (a2 : At P w K mg base CX0 2 "steps_from" g2 d2 ["steps", "first"] spFrom) : FnOk P w K mg base CX0 3 f fd ["land"] spWalks := by
  refine F.ok scWalks (fun vs H Q E h => ?_) (fun cdv A outer s H vs Q E hr h => ?_)
  · obtain ⟨t, cs, rfl, _⟩ := h; rfl
  · obtain ⟨t, cs, rfl, hT, h10, hnd, q⟩ := h
    have nd := scWalks.nd
    refine ⟨_, pss_cons (ps_set (i := 1) nd rfl (Or.inl rfl) (pe_call a1.ok hr rfl a1.nm a1.kp a1.bd .nil pass0 (pa_v (pv 0) pa_nil))) <|
      pss_cons (ps_set (i := 2) nd rfl (Or.inl rfl) (pe_lst pa_nil)) <|
      pss_cons (ps_set (i := 3) nd rfl (Or.inl rfl) (pe_lst pa_nil)) <|
      pss_cons (ps_for PassesOwn.never rfl (pi_list (pv 1)) (pg_name (i := 4) nd rfl (Or.inl rfl))
        (pss_one (ps_if (pt_cmpR (op_notInD 2 (hu2_of hr)) (pv 4) (pv 3) rfl)
          (pss_cons (ps_set (i := 5) nd rfl (Or.inl rfl) (pe_call a2.ok hr rfl a2.nm a2.kp a2.bd .nil pass0 (pa_v (pv 1) (pa_v (pv 4) pa_nil)))) <|
           pss_cons (ps_expr (pe_bm PySem.F.plainAttrs_list PySem.F.slot_list_extend PySem.F.type_list_extend mt_extend (pv 3) (pa_v (pv 5) pa_nil))) <|
           pss_one (ps_expr (pe_bm PySem.F.plainAttrs_list PySem.F.slot_list_append PySem.F.type_list_append mt_append (pv 2) (pa_k (pe_callTy call_tuple_of rfl T.tuple boot_tuple (pa_lc (pe_comp1 (defScope sWalks).names nWa ["start", "end"] [] rfl (pi_list (pv 5)) rfl rfl rfl (by decide +kernel)
              (fun Z => pg_tup rfl (pgs_cons (pg_name (i := 0) ndSE rfl (Or.inl rfl)) (pgs_cons (pg_name (i := 1) ndSE rfl (Or.inl rfl)) pgs_nil))) (fun Z => pts_nil) (fun Z => pv 0)) pa_nil)) pa_nil)))) pss_nil))) <|
      pss_one (ps_ret (pv 2)), ?_⟩
    refine ⟨_, rfl, t, cs, rfl, hT, h10, fun l qs ss H1 hl1 s1 hl hS so => ?_⟩
    have O := of_srt hnd so
    have R := O.rnd
    have h40 : ss.length ≤ 40 := by
      have h1 := so.1.length_eq
      have h2 := stepsU_len cs cs
      unfold stepsU at h1
      omega
    refine ⟨by show 0 ≤ sizeLine; decide, fun lw hlw => ?_⟩
    refine ⟨by show 0 ≤ sizeLine; decide, fun lk hlk => ?_⟩
    have hkw : lk ≠ lw := fun z => by rw [z, upd_same] at hlk; cases hlk
    rw [upd_ne hkw] at hlk
    refine ⟨_, rfl, l, rfl, ⟨_, SqL.of (by rw [upd_ne (ne_of_none hl hlk), upd_ne (ne_of_none hl hlw)]; exact hl)⟩, ?_⟩
    refine for_list (K := K) (a := l) (xs := qs.map V.ref) (fun i σ H' => (∃ o4 o5, σ = [some (.ref t), some (.ref l), some (.ref lw), some (.ref lk), o4, o5]) ∧ Same H1 H' ∧ ∃ ws qk, H' lw = some (.lst ((ws : List Addr).map V.ref)) ∧ WkP H' ws (((ss.take i).foldl (stF (orb (nxt ss))) ([], [])).1.map stones) ∧ H' lk = some (.lst ((qk : List Addr).map V.ref)) ∧ StAt H' qk ((ss.take i).foldl (stF (orb (nxt ss))) ([], [])).2 ∧ ws.length ≤ i)
      ⟨⟨_, _, rfl⟩, (same_upd hlw).trans (same_upd (by rw [upd_ne hkw]; exact hlk)), [], [], by rw [upd_ne hkw.symm, upd_same]; rfl, .nil, by rw [upd_same]; rfl, .nil, Nat.zero_le _⟩ (fun i σ H' _ h => SqL.of (h.2.1 _ _ hl)) ?_ ?_
    · rintro i x σ H' hx ⟨⟨o4, o5, rfl⟩, hs, ws, qk, hw, hW, hk, hK, hwl⟩
      obtain ⟨qi, hqi, rfl⟩ := getR hx
      obtain ⟨st, hsi, hst⟩ := hS.at hqi
      have hi : i < qs.length := (List.getElem?_eq_some_iff.mp hqi).1
      have hql : qs.length = ss.length := Paired.length hS
      have hmem : st ∈ ss := List.mem_of_getElem? hsi
      have G := got_take R i
      have hkl : qk.length ≤ 40 := by
        have h1 : qk.length = _ := Paired.length hK
        have h2 := sub_len G.nd G.sub
        omega
      rw [fold_take _ _ _ _ _ hsi]
      generalize hwd : (ss.take i).foldl (stF (orb (nxt ss))) ([], []) = wd at *
      refine ⟨_, rfl, _, rfl, lk, _, _, rfl, .inr hk, e3St (hst.same hs) hK, _, rfl, ?_⟩
      rw [any_eq]
      refine iteB (fun z' => ?_) fun z' => ?_
      · have z : st ∉ wd.2 := by simpa using z'
        have est : stF (orb (nxt ss)) wd st = (wd.1 ++ [orb (nxt ss) st], wd.2 ++ orb (nxt ss) st) := by unfold stF; rw [if_neg z]
        rw [est]
        refine ⟨_, rfl, _, rfl, l, qi, cs, ss, st, rfl, ⟨qs, hs _ _ hl, hS.same hs⟩, h40, O, hmem, hst.same hs, fun lb qb H2 hlb s2 hb hB => ?_⟩
        have hbl : qb.length ≤ 40 := by
          have h1 : qb.length = _ := Paired.length hB
          have h2 := sub_len (R.orb_nd hmem) (R.orb_sub hmem)
          omega
        have hw2 := s2 _ _ hw
        have hk2 := s2 _ _ hk
        refine ⟨_, rfl, .inl ⟨rfl, _, SqL.of hk2⟩, _, rfl, lk, lb, _, _, rfl, rfl, hk2, hb, by rw [List.length_map, List.length_map, sizeLine_eq]; omega, ?_⟩
        have hbk : lb ≠ lk := fun z => by rw [z, hk] at hlb; cases hlb
        have hbw : lb ≠ lw := fun z => by rw [z, hw] at hlb; cases hlb
        have s3 : Same H1 (upd H2 lk (.lst (qk.map V.ref ++ qb.map V.ref))) := fun b' u e' => by rw [upd_ne (ne_of_none e' hlk)]; exact s2 _ _ (hs _ _ e')
        have hK3 : StAt (upd H2 lk (.lst (qk.map V.ref ++ qb.map V.ref))) (qk ++ qb) (wd.2 ++ orb (nxt ss) st) := ((hK.same s2).put hk2).app (hB.put hk2)
        have hW3 : WkP (upd H2 lk (.lst (qk.map V.ref ++ qb.map V.ref))) ws (wd.1.map stones) := Paired.mapP hW fun _ _ z => sqPut hk2 (z.same s2)
        have hw3 : upd H2 lk (.lst (qk.map V.ref ++ qb.map V.ref)) lw = some (.lst (ws.map V.ref)) := by rw [upd_ne hkw.symm]; exact hw2
        have hb3 : upd H2 lk (.lst (qk.map V.ref ++ qb.map V.ref)) lb = some (.lst (qb.map V.ref)) := by rw [upd_ne hbk]; exact hb
        have hB3 : StAt (upd H2 lk (.lst (qk.map V.ref ++ qb.map V.ref))) qb (orb (nxt ss) st) := hB.put hk2
        have hk3 : upd H2 lk (.lst (qk.map V.ref ++ qb.map V.ref)) lk = some (.lst ((qk ++ qb).map V.ref)) := by rw [upd_same, List.map_append]
        generalize upd H2 lk (.lst (qk.map V.ref ++ qb.map V.ref)) = H3 at s3 hK3 hW3 hw3 hb3 hB3 hk3
        refine ⟨_, rfl, .inl ⟨rfl, _, SqL.of hw3⟩, _, rfl, lb, rfl, ⟨_, SqL.of hb3⟩, fun Z lp hlp => ?_⟩
        refine comp_startS hb3 hB3 hlp (by omega) fun σ H4 ps s4 hlp4 hP4 => ?_
        refine ⟨lp, _, rfl, .inl ⟨SqL.of hlp4, fun tw htw => ?_⟩⟩
        have s5 := same_upd (o := .tup (ps.map V.ref)) htw
        have s45 := s4.trans s5
        have hw5 := s45 _ _ hw3
        refine ⟨lw, _, _, rfl, rfl, hw5, small1000 (by rw [List.length_map]; omega), ?_⟩
        have hk5 := s45 _ _ hk3
        refine ⟨⟨_, _, rfl⟩, fun b' u e' => ?_, ws ++ [tw], qk ++ qb, ?_, ?_, ?_, (hK3.same s45).put hw5, ?_⟩
        · rw [upd_ne (ne_of_none e' hlw)]; exact s45 _ _ (s3 _ _ e')
        · rw [upd_same, List.map_append]; rfl
        · rw [List.map_append]
          exact Paired.snoc (Paired.mapP hW3 fun _ _ z => sqPut hw5 (z.same s45)) (sqPut hw5 ⟨ps, upd_same, hP4.same s5⟩)
        · rw [upd_ne hkw]; exact hk5
        · rw [List.length_append]; show _ + 1 ≤ _; omega
      · have z : st ∈ wd.2 := by simpa using z'
        have est : stF (orb (nxt ss)) wd st = wd := by unfold stF; rw [if_pos z]
        rw [est]
        exact ⟨⟨_, _, rfl⟩, hs, ws, qk, hw, hW, hk, hK, by omega⟩
    · rintro σ H' ⟨⟨o4, o5, rfl⟩, hs, ws, qk, hw, hW, _, _, _⟩
      have hql : qs.length = ss.length := Paired.length hS
      rw [List.length_map, hql, List.take_of_length_le (Nat.le_refl _)] at hW
      exact ⟨_, rfl, q lw ws ss H' (s1.free hlw) (s1.trans hs) hw so hW⟩
theorem scWalksOf : FnScope ["mead", "land"] ["mead", "land"] (defScope sWalksOf) := ⟨rfl, rfl, rfl, by decide +kernel, rfl, by decide +kernel, by decide +kernel⟩
theorem ok_walksOf {f g1 g2 : Addr} {fd d1 d2 : FuncData} (F : Fun K "walks_of" "walks_of" sWalksOf f fd) (a1 : At P w K mg base CX0 7 "check_land" g1 d1 ["mead", "land"] spChkLand) (a2 : At P w K mg base CX0 3 "walks_along" g2 d2 ["land"] spWalks) : FnOk P w K mg base CX0 8 f fd ["mead", "land"] spWalksOf := by
 refine F.ok scWalksOf (fun vs H Q E h => ?_) (fun cdv A outer s H vs Q E hr h => ?_)
 ·obtain ⟨a, t, g, w', cs, rfl, _⟩ := h; rfl
 ·obtain ⟨a, t, g, w', cs, rfl, hA, G, hT, hL, q⟩ := h
  refine ⟨_, pss_cons (ps_expr (pe_call a1.ok hr rfl a1.nm a1.kp a1.bd .nil pass0 (pa_v (pv 0) (pa_v (pv 1) pa_nil)))) <| pss_one (ps_ret (pe_call a2.ok (hr.mono (by decide)) rfl a2.nm a2.kp a2.bd .nil pass0 (pa_v (pv 1) pa_nil))), ?_⟩
  refine ⟨_, rfl, _, rfl, a, t, g, w', cs, rfl, hA, G, hT, hL, fun H1 s1 => ?_⟩
  exact ⟨_, rfl, t, cs, rfl, hT.same s1, LandOf.len G hL, up_nd ((gridF_up pos g).sublist hL), fun l ws ss H2 hl s2 hl2 so hW => q l ws ss H2 (s1.free hl) (s1.trans s2) hl2 so hW⟩
theorem scRound : FnScope ["mead", "land"] ["mead", "land"] (defScope sRound) := ⟨rfl, rfl, rfl, by decide +kernel, rfl, by decide +kernel, by decide +kernel⟩
theorem ndW : (["walk"] : List Str).Nodup := by decide +kernel
theorem WkP.at {H : Hp} : ∀ {ws : List Addr} {o : List (List Pl)} {i : Nat} {q : Addr}, WkP H ws o → ws[i]? = some q → ∃ c, o[i]? = some c ∧ SqA H q c
 | _, _, 0, _, .cons r _, h => by cases h; exact ⟨_, rfl, r⟩
 | _, _, i + 1, _, .cons _ t, h => WkP.at (i := i) t (by simpa using h)
theorem ok_round {f g1 : Addr} {fd d1 : FuncData} (F : Fun K "steps_round" "steps_round" sRound f fd) (T : Txt mg) (T2 : Txt2 mg) (a1 : At P w K mg base CX0 8 "walks_of" g1 d1 ["mead", "land"] spWalksOf) : FnOk P w K mg base CX0 9 f fd ["mead", "land"] spRound := by
 refine F.ok scRound (fun vs H Q E h => ?_) (fun cdv A outer s H vs Q E hr h => ?_)
 ·obtain ⟨a, t, g, w', cs, rfl, _⟩ := h; rfl
 ·obtain ⟨a, t, g, w', cs, rfl, hA, G, hT, hL, q⟩ := h
  refine ⟨_, pss_one (ps_ret (pe_callB (call_sumI rfl) rfl T2.sum boot_sum (pa_lc (pe_comp1 (defScope sRound).names ["mead", "land"] ["walk"] [] rfl (pi_list (pe_call a1.ok hr rfl a1.nm a1.kp a1.bd .nil pass0 (pa_v (pv 0) (pa_v (pv 1) pa_nil)))) rfl rfl rfl (by decide +kernel)
   (fun Z => pg_name (i := 0) ndW rfl (Or.inl rfl)) (fun Z => pts_nil) (fun Z => pe_callB call_len_seq rfl T.len PySem.boot_len (pa_v (pv 0) pa_nil))) pa_nil))), ?_⟩
  refine ⟨_, rfl, _, rfl, a, t, g, w', cs, rfl, hA, G, hT, hL, fun l ws ss H1 hl s1 hl1 so hW => ?_⟩
  have hnd := up_nd ((gridF_up pos g).sublist hL)
  have hsum := walks_sum hnd so
  have h40 : ss.length ≤ 40 := by
   have h1 := so.1.length_eq
   have h2 := stepsU_len cs cs
   have := LandOf.len G hL
   unfold stepsU at h1
   omega
  have hwl : ws.length = (walksP ss).length := Paired.length hW
  have each : ∀ w ∈ walksP ss, 1 ≤ w.length ∧ w.length ≤ 40 := fun w hw => by
   have h1 := List.length_pos_iff.mpr (walks_ne hnd so w hw)
   refine ⟨h1, ?_⟩
   have : w.length ≤ ((walksP ss).map List.length).sum := le_sum (List.mem_map.mpr ⟨w, hw, rfl⟩)
   omega
  have hw40 : (walksP ss).length ≤ 40 := by
   have : ∀ l : List (List Pl), (∀ w ∈ l, 1 ≤ w.length) → l.length ≤ (l.map List.length).sum := fun l => by
    induction l with
    | nil => intro _; simp
    | cons x l ih =>
     intro h
     have h1 := ih fun w hw => h w (List.mem_cons_of_mem _ hw)
     have h2 := h x List.mem_cons_self
     rw [List.length_cons, List.map_cons, List.sum_cons]; omega
   have := this (walksP ss) fun w hw => (each w hw).1
   omega
  refine ⟨l, rfl, ⟨_, SqL.of hl1⟩, fun Z l2 hl2 => ?_⟩
  refine for_list (K := K) (a := l) (xs := ws.map V.ref) (fun i σ H' => σ.length = 1 ∧ Same H1 H' ∧ H' l2 = some (.lst (((walksP ss).take i).map fun w => V.int (w.length : Int)))) ⟨rfl, same_upd hl2, by rw [upd_same]; rfl⟩ (fun i σ H' _ h => SqL.of (h.2.1 _ _ hl1)) ?_ ?_
  ·rintro i x σ H' hx ⟨hσ, hs, hl2'⟩
   match σ, hσ with
   | [x0], _ =>
   obtain ⟨q1, hq1, rfl⟩ := getR hx
   obtain ⟨wk, hwk, ps, e1, e2⟩ := hW.at hq1
   refine body_name ?_
   refine ⟨_, rfl, q1, _, rfl, .inr (SqT.of (hs _ _ e1)), ?_⟩
   refine ⟨_, hl2', small1000 (by rw [List.length_map, List.length_take]; omega), rfl, fun b' u e' => ?_, ?_⟩
   ·rw [upd_ne (ne_of_none e' hl2)]; exact hs _ _ e'
   ·rw [upd_same, List.take_succ, hwk, List.map_append, List.length_map, show ps.length = wk.length from Paired.length e2]; rfl
  ·rintro σ H' ⟨_, hs, hl2'⟩
   rw [List.length_map, hwl, List.take_of_length_le (Nat.le_refl _)] at hl2'
   refine ⟨l2, (walksP ss).map fun w => (w.length : Int), rfl, SqL.of (by rw [hl2', List.map_map]; rfl), by rw [List.length_map]; omega, fun n hn => ?_, ?_⟩
   ·obtain ⟨w, hw, rfl⟩ := List.mem_map.mp hn
    have := each w hw
    omega
   ·have es : ((walksP ss).map fun w => (w.length : Int)).sum = ((stepsU cs).length : Nat) := by
     have cast : ∀ l : List (List Pl), (l.map fun w => (w.length : Int)).sum = (((l.map List.length).sum : Nat) : Int) := fun l => by
      induction l with
      | nil => rfl
      | cons x l ih => rw [List.map_cons, List.sum_cons, ih, List.map_cons, List.sum_cons]; omega
     rw [cast, hsum, so.1.length_eq]
    rw [es]
    exact q H' (s1.trans hs)
end
end M50
namespace M50
open PySem L2 PyProof.Rows Grd Wlk Cyc
noncomputable abbrev sLand : Stmt := top 59
noncomputable def spLand : Sp := fun vs H Q _ => ∃ p a g w, vs = [.ref p, .ref a] ∧ PenAt H p ∧ GridAt H a g ∧ Good g w ∧ ∀ t cs H', Stp p H H' → SqA H' t cs → LandOf g cs → Q (.ref t) H'
theorem SqA.ext {H H' : Hp} {a : Addr} {cs : List Pl} (h : SqA H a cs) (e : Ext H H') : SqA H' a cs := let ⟨ps, h1, h2⟩ := h; ⟨ps, e.tup _ _ h1, Paired.mapP h2 fun _ _ z => e.tup _ _ z⟩
theorem pen_ne {H : Hp} {p l : Addr} (h : PenAt H p) (hl : H l = none) : l ≠ p := fun z => by
 obtain ⟨x, y, e⟩ := h
 rw [z, e] at hl; cases hl
theorem stp_free {p l : Addr} {H H' : Hp} (h : PenAt H p) (s : Stp p H H') (hl : H' l = none) : H l = none := by
 cases e : H l with
 | none => rfl
 | some o =>
  by_cases z : l = p
  ·obtain ⟨x, y, e'⟩ := s.pen
   rw [z, e'] at hl; cases hl
  ·rw [s.keep l o z e] at hl; cases hl
section
variable {P : Program} {w : World} {K : PySem.W.Frag} {mg : Str → Option Value} {base : Heap}
noncomputable abbrev nLd : List Str := ["_law_pen_here", "_law_mead_here", "_law_odd"]
theorem scLand : FnScope nLd ["_law_pen_here", "_law_mead_here"] (defScope sLand) := ⟨rfl, rfl, rfl, by decide +kernel, rfl, by decide +kernel, by decide +kernel⟩
theorem ndLd : (["_law_place", "_law_odd", "_law_pen_here"] : List Str).Nodup := by decide +kernel
theorem ok_land {f g1 g2 : Addr} {fd d1 d2 : FuncData} (F : Fun K "_law_land" "_law_land" sLand f fd) (T : Txt mg) (aD : At P w K mg base CX0 1 "_law_draw" g1 d1 ["_law_pen_here", "_law_many"] spDraw) (aC : At P w K mg base CX0 1 "_law_cells" g2 d2 ["_law_mead_here"] (spGrid pos)) : FnOk P w K mg base CX0 2 f fd ["_law_pen_here", "_law_mead_here"] spLand := by
 refine F.ok scLand (fun vs H Q E h => ?_) (fun cdv A outer s H vs Q E hr h => ?_)
 ·obtain ⟨p, a, g, w', rfl, _⟩ := h; rfl
 ·obtain ⟨p, a, g, w', rfl, hp, hA, G, q⟩ := h
  have nd := scLand.nd
  refine ⟨_, pss_cons (ps_set (i := 2) nd rfl (Or.inr rfl) (pe_op op_add pe_int (pe_call aD.ok hr rfl aD.nm aD.kp aD.bd .nil pass0 (pa_v (pv 0) (pa_c pe_int pa_nil))))) <|
   pss_one (ps_ret (pe_callTy call_tuple_of rfl T.tuple boot_tuple (pa_lc (pe_comp1 (defScope sLand).names nLd ["_law_place"] [("_law_odd", 2), ("_law_pen_here", 0)] rfl (pi_list (pe_call aC.ok hr rfl aC.nm aC.kp aC.bd .nil pass0 (pa_v (pv 1) pa_nil))) rfl rfl rfl (by decide +kernel)
    (fun Z => pg_name (i := 0) ndLd rfl (Or.inl rfl)) (fun Z => pts_one (pt_cmpR op_lt (pe_call aD.ok hr rfl aD.nm aD.kp aD.bd .nil pass0 (pa_v (pv 2) (pa_c pe_int pa_nil))) (pv 1) (nomark _))) (fun Z => pv 0)) pa_nil))), ?_⟩
  refine ⟨_, rfl, p, 4, rfl, hp, by decide, by decide, fun d H1 d0 d1 st1 => ?_⟩
  refine ⟨_, _, rfl, rfl, ?_⟩
  refine ⟨_, rfl, a, g, w', rfl, hA.ext (st1.ext hp), G, fun H2 l0 ps hl0 s2 hl0' hP => ?_⟩
  have pen2 : PenAt H2 p := let ⟨x, y, e⟩ := st1.pen; ⟨x, y, s2 _ _ e⟩
  have np0 : l0 ≠ p := pen_ne st1.pen hl0
  have hlen : ps.length = (gridF pos g).length := Paired.length hP
  have h10 : ps.length ≤ 10 := by rw [hlen, len_cells]; exact G.c10
  refine ⟨l0, rfl, ⟨_, SqL.of hl0'⟩, fun Z l hl => ?_⟩
  have npl : l ≠ p := pen_ne pen2 hl
  have hll : l0 ≠ l := ne_of_none hl0' hl
  refine for_list (K := K) (a := l0) (xs := ps.map V.ref) (fun i σ H' => (∃ o, σ = [o, some (.int (1 + d)), some (.ref p)]) ∧ Stp p H2 H' ∧ ∃ ps' cs', H' l = some (.lst ((ps' : List Addr).map V.ref)) ∧ PlAt H' ps' cs' ∧ cs'.Sublist ((gridF pos g).take i))
   ⟨⟨_, rfl⟩, (Stp.refl pen2).updL hl pen2, [], [], by rw [upd_same]; rfl, .nil, List.nil_sublist _⟩ (fun i σ H' _ h => SqL.of (h.2.1.keep _ _ np0 hl0')) ?_ ?_
  ·rintro i x σ H' hx ⟨⟨o, rfl⟩, hst, ps', cs', hl', hP', hsub⟩
   obtain ⟨pi, hpi, rfl⟩ := getR hx
   obtain ⟨c, hc, he⟩ := hP.at hpi
   have hi : i < ps.length := (List.getElem?_eq_some_iff.mp hpi).1
   have hpl : ps'.length ≤ i := by
    have h1 : ps'.length = _ := Paired.length hP'
    have h2 := hsub.length_le
    rw [List.length_take] at h2; omega
   show tBodyC _ _ _ [some (.ref pi), some (.int (1 + d)), some (.ref p)] H'
   refine ⟨_, rfl, p, 5, rfl, hst.pen, by decide, by decide, fun e H3 e0 e1 st3 => ?_⟩
   have hl3 := st3.keep _ _ npl hl'
   have ex3 := st3.ext hst.pen
   have hst3 := hst.trans st3
   have et : (gridF pos g).take (i + 1) = (gridF pos g).take i ++ [c] := by rw [List.take_succ, hc]; rfl
   rw [et]
   refine ⟨_, rfl, _, _, rfl, rfl, _, rfl, ite2d (fun _ => ?_) fun _ => ?_⟩
   ·refine ⟨_, rfl, _, hl3, small1000 (by rw [List.length_map]; omega), ⟨_, rfl⟩, hst3.updL hl pen2, ps' ++ [pi], cs' ++ [c], ?_, ?_, List.Sublist.append hsub (List.Sublist.refl _)⟩
    ·rw [upd_same, List.map_append]; rfl
    ·exact PlAt.snoc (Paired.mapP hP' fun _ _ z => PlA.put hl3 (ex3.tup _ _ z)) (PlA.put hl3 ((hst3.ext pen2).tup _ _ he))
   ·exact ⟨⟨_, rfl⟩, hst3, ps', cs', hl3, Paired.mapP hP' fun _ _ z => ex3.tup _ _ z, hsub.trans (List.sublist_append_left _ _)⟩
  ·rintro σ H' ⟨_, hst, ps', cs', hl', hP', hsub⟩
   refine ⟨l, _, rfl, .inl ⟨SqL.of hl', fun t ht => ?_⟩⟩
   have s5 := same_upd (o := .tup (ps'.map V.ref)) ht
   exact q t cs' _ (((st1.same s2).trans hst).same s5) ⟨ps', upd_same, hP'.same s5⟩ (hsub.trans (List.take_sublist _ _))
end
end M50
namespace PySem
section
variable {prog : Program} {w : World} {A : Around} {E : Value → Shared → Prop} {s : Shared}
noncomputable abbrev IsZG (h : Heap) (z TI TO : Addr) (out : Value) (fl : Bool) : Prop := h.get? z = some { cls := .type "zip", data := .fields #[out, .bool fl, .bool false, .ref TI, .ref TO] }
theorem wpAny_alive {M : Model} {a : Addr} {Q : Option Obj → Shared → Prop} (h : Q (s.heap.get? a) s) : wpAny M A (loadIfAlive a) Q E s := fun _ _ _ => h
theorem freeG {M : Model} {out : Value} {self : Value} {Q : Bool → Shared → Prop} (hf : out = .none ∨ ∃ n, out = .int n 0 ∧ s.heap.get? n.toNat = none) (h : Q true s) :
  wpAny M A (match out with
   | .none => pure true
   | .int a _ => do
    if (← loadIfAlive a.toNat).isNone then return true
    if (← field self 1) != .bool true then setField self 1 (.bool true)
    return false
   | _ => pure false) Q E s := by
 rcases hf with rfl | ⟨n, rfl, hn⟩
 ·exact wpAny_pure h
 ·refine wpAny_bind (wpAny_alive ?_)
  rw [hn]
  exact wpAny_pure h
theorem zipG_free {z TI TO i1 i2 : Addr} {f1 f2 : List Addr} {n1 n2 k : Nat} {P1 P2 : Nat → Value → Prop} {S1 S2 : Nat → Heap → Prop} {a b : Value} {Q : Value → Shared → Prop} (D1 : Draws prog w A i1 f1 n1 P1 S1) (D2 : Draws prog w A i2 f2 n2 P2 S2) (D : ZipFar z TI TO i1 i2 f1 f2)
  {out : Value} {fl : Bool} (hz : IsZG s.heap z TI TO out fl) (hfree : out = .none ∨ ∃ n, out = .int n 0 ∧ s.heap.get? n.toNat = none) (hTI : IsPair s.heap TI (.ref i1) (.ref i2)) (hTO : IsPair s.heap TO a b) (t1 : S1 k s.heap) (t2 : S2 k s.heap) (hk1 : k < n1) (hk2 : k < n2)
  (hQ : ∀ x y h' tk, P1 k x → P2 k y → IsZG h' z TI TO (rawInt s.heap.objs.size) false → IsPair h' TO x y → S1 (k + 1) h' → S2 (k + 1) h' → IsPair h' s.heap.objs.size x y →
   (∀ c o, c ≠ z → c ≠ TO → c ≠ i1 → c ≠ i2 → s.heap.get? c = some o → h'.get? c = some o) → Q (.ref s.heap.objs.size) { s with heap := h', toks := tk }) :
  wpAny (model prog w) A (Builtin.«zip.__next__» ⟨[.ref z], []⟩) (fun fin s' => ∃ v, fin = .done (.ret v) ∧ Q v s') E s := by
 show wpAny _ _ (field (.ref z) 2 >>= _) _ _ _; refine wpAny_bind (wpAny_field hz rfl (x := .bool false) rfl ?_); show wpAny _ _ (field (.ref z) 3 >>= _) _ _ _
 refine wpAny_bind (wpAny_field hz rfl (x := .ref TI) rfl (wpAny_bind (wpAny_seqItems hTI rfl ?_)))
 show wpAny _ _ (Builtin.SmallTypes.ownedTupleIsFree (.ref z) >>= _) _ _ _; refine wpAny_bind ?_; unfold Builtin.SmallTypes.ownedTupleIsFree
 refine wpAny_bind (wpAny_field hz rfl (x := out) rfl ?_)
 refine freeG hfree ?_
 simp only [if_true]
 refine wpAny_bind (wpAny_rule (wpAny_bind (wpAny_field hz rfl (x := .ref TO) rfl (wpAny_bind (wpAny_setField_rec hz (by simp) fun h₁ hz₁ hs₁ => ?_)))))
 replace hz₁ : IsZG h₁ z TI TO .ellipsis fl := hz₁
 refine wpAny_bind ?_; simp only [List.zipIdx_cons, List.zipIdx_nil, List.forIn_cons, List.forIn_nil]
 refine wpAny_bind (wpAny_bind (wpAny_onRaise ?_)); show wpAny _ _ (Builtin.SmallTypes.nextOf (.ref i1) >>= _) _ _ _
 have u1 : S1 k h₁ := D1.frame k _ _ t1 fun c hc o e => hs₁.extBut _ _ (fun q => D.z1 (q ▸ hc)) e
 refine wpAny_bind (D1.item k _ _ _ hk1 u1 fun x h₂ tk₂ hx v1 hs₂ => wpAny_pure ?_)
 have hTO₂ : IsPair h₂ TO a b := hs₂.extBut _ _ D.O1 (hs₁.extBut _ _ D.Oz hTO)
 refine wpAny_bind (wpAny_seqItems hTO₂ rfl (wpAny_bind (wpAny_updateSeq_pair hTO₂ fun h₃ hTO₃ hs₃ => ?_)))
 replace hTO₃ : IsPair h₃ TO x b := hTO₃
 refine wpAny_bind (wpAny_letGo (wpAny_pure ?_)); refine wpAny_bind (wpAny_bind (wpAny_onRaise ?_)); show wpAny _ _ (Builtin.SmallTypes.nextOf (.ref i2) >>= _) _ _ _
 have u2 : S2 k h₃ := D2.frame k _ _ t2 fun c hc o e => hs₃.extBut _ _ (fun q => D.o2 (q ▸ hc)) (hs₂.extBut _ _ (fun q => D.c1 (q ▸ hc)) (hs₁.extBut _ _ (fun q => D.z2 (q ▸ hc)) e))
 refine wpAny_bind (D2.item k _ _ _ hk2 u2 fun y h₄ tk₄ hy v2 hs₄ => wpAny_pure ?_)
 have hTO₄ : IsPair h₄ TO x b := hs₄.extBut _ _ D.O2 hTO₃
 refine wpAny_bind (wpAny_seqItems hTO₄ rfl (wpAny_bind (wpAny_updateSeq_pair hTO₄ fun h₅ hTO₅ hs₅ => ?_)))
 replace hTO₅ : IsPair h₅ TO x y := hTO₅
 refine wpAny_bind (wpAny_letGo (wpAny_pure (wpAny_pure ?_))); refine wpAny_bind (wpAny_seqItems hTO₅ rfl (wpAny_bind (wpAny_newTuple ?_)))
 have hsz : h₅.objs.size = s.heap.objs.size := by rw [hs₅.1, hs₄.1, hs₃.1, hs₂.1, hs₁.1]
 have hz₅ : IsZG h₅ z TI TO .ellipsis fl := hs₅.extBut _ _ D.Oz.symm (hs₄.extBut _ _ D.jz.symm (hs₃.extBut _ _ D.Oz.symm (hs₂.extBut _ _ D.iz.symm hz₁)))
 have hk₅ : ∀ c o, c ≠ z → c ≠ TO → c ≠ i1 → c ≠ i2 → s.heap.get? c = some o → h₅.get? c = some o := fun c o e1 e2 e3 e4 e => hs₅.extBut _ _ e2 (hs₄.extBut _ _ e4 (hs₃.extBut _ _ e2 (hs₂.extBut _ _ e3 (hs₁.extBut _ _ e1 e))))
 have w1 : S1 (k + 1) h₅ := D1.frame _ _ _ v1 fun c hc o e => hs₅.extBut _ _ (fun q => D.o1 (q ▸ hc)) (hs₄.extBut _ _ (fun q => D.c2 (q ▸ hc)) (hs₃.extBut _ _ (fun q => D.o1 (q ▸ hc)) e))
 have w2 : S2 (k + 1) h₅ := D2.frame _ _ _ v2 fun c hc o e => hs₅.extBut _ _ (fun q => D.o2 (q ▸ hc)) e
 have hzlt : z < h₅.objs.size := Heap.lt_size hz₅
 show wpAny _ _ (Builtin.SmallTypes.ownedTupleHandOut (.ref z) (.ref h₅.objs.size) >>= _) _ _ _; refine wpAny_bind ?_; unfold Builtin.SmallTypes.ownedTupleHandOut
 have hz₆ : IsZG (h₅.push { cls := .type "tuple", data := .seq #[x, y] }) z TI TO .ellipsis fl := Heap.get?_push_of_some _ hz₅
 refine wpAny_bind (wpAny_setField_rec hz₆ (by simp) fun h₇ hz₇ hs₇ => ?_); replace hz₇ : IsZG h₇ z TI TO (rawInt h₅.objs.size) fl := hz₇
 refine wpAny_setField_rec hz₇ (by simp) fun h₈ hz₈ hs₈ => ?_; replace hz₈ : IsZG h₈ z TI TO (rawInt h₅.objs.size) false := hz₈
 have up : ∀ c o, c ≠ z → h₅.get? c = some o → h₈.get? c = some o := fun c o e1 e => hs₈.extBut _ _ e1 (hs₇.extBut _ _ e1 (Heap.get?_push_of_some _ e))
 have hT₈ : IsPair h₈ h₅.objs.size x y := hs₈.extBut _ _ (Nat.ne_of_gt hzlt) (hs₇.extBut _ _ (Nat.ne_of_gt hzlt) (Heap.get?_push_size _ rfl))
 rw [hsz] at hz₈ hT₈
 refine wpAny_pure ⟨_, rfl, ?_⟩; show Q (.ref h₅.objs.size) _; rw [hsz]
 exact hQ x y h₈ _ hx hy hz₈ (up _ _ D.Oz hTO₅) (D1.frame _ _ _ w1 fun c hc o e => up c o (fun q => D.z1 (q ▸ hc)) e) (D2.frame _ _ _ w2 fun c hc o e => up c o (fun q => D.z2 (q ▸ hc)) e) hT₈ fun c o e1 e2 e3 e4 e => up c o e1 (hk₅ c o e1 e2 e3 e4 e)
theorem zipG_freeEnd {z TI TO i1 i2 : Addr} {f1 f2 : List Addr} {n1 : Nat} {P1 : Nat → Value → Prop} {S1 : Nat → Heap → Prop} {Q : Fin → Shared → Prop} (D1 : Draws prog w A i1 f1 n1 P1 S1) (D : ZipFar z TI TO i1 i2 f1 f2)
  {out : Value} {fl : Bool} (hz : IsZG s.heap z TI TO out fl) (hfree : out = .none ∨ ∃ n, out = .int n 0 ∧ s.heap.get? n.toNat = none) (hTI : IsPair s.heap TI (.ref i1) (.ref i2)) (t1 : S1 n1 s.heap)
  (hE : ∀ h' e, (∀ c o, c ≠ z → c ≠ i1 → s.heap.get? c = some o → h'.get? c = some o) → (∃ o, h'.get? e = some o ∧ o.cls = .type "StopIteration") → E (.ref e) { s with heap := h' }) :
  wpAny (model prog w) A (Builtin.«zip.__next__» ⟨[.ref z], []⟩) Q E s := by
 show wpAny _ _ (field (.ref z) 2 >>= _) _ _ _; refine wpAny_bind (wpAny_field hz rfl (x := .bool false) rfl ?_); show wpAny _ _ (field (.ref z) 3 >>= _) _ _ _
 refine wpAny_bind (wpAny_field hz rfl (x := .ref TI) rfl (wpAny_bind (wpAny_seqItems hTI rfl ?_)))
 show wpAny _ _ (Builtin.SmallTypes.ownedTupleIsFree (.ref z) >>= _) _ _ _; refine wpAny_bind ?_; unfold Builtin.SmallTypes.ownedTupleIsFree
 refine wpAny_bind (wpAny_field hz rfl (x := out) rfl ?_)
 refine freeG hfree ?_
 simp only [if_true]
 refine wpAny_bind (wpAny_rule (wpAny_bind (wpAny_field hz rfl (x := .ref TO) rfl (wpAny_bind (wpAny_setField_rec hz (by simp) fun h₁ hz₁ hs₁ => ?_)))))
 replace hz₁ : IsZG h₁ z TI TO .ellipsis fl := hz₁
 refine wpAny_bind ?_; simp only [List.zipIdx_cons, List.zipIdx_nil, List.forIn_cons, List.forIn_nil]
 refine wpAny_bind (wpAny_bind (wpAny_onRaise ?_)); show wpAny _ _ (Builtin.SmallTypes.nextOf (.ref i1) >>= _) _ _ _
 have u1 : S1 n1 h₁ := D1.frame n1 _ _ t1 fun c hc o e => hs₁.extBut _ _ (fun q => D.z1 (q ▸ hc)) e
 refine wpAny_bind (D1.done _ _ _ u1 fun h₂ e hs₂ he => ?_)
 obtain ⟨oe, hoe, hce⟩ := he
 have hz₂ : IsZG h₂ z TI TO .ellipsis fl := hs₂ _ _ D.iz.symm hz₁
 have hez : e ≠ z := fun x => by subst x; rw [hz₂] at hoe; cases hoe; simp at hce
 refine wpAny_setField_rec hz₂ (by simp) fun h₃ _ hs₃ => hE h₃ e (fun c o c1 c3 x => hs₃.extBut _ _ c1 (hs₂ _ _ c3 (hs₁.extBut _ _ c1 x))) ⟨oe, hs₃.extBut _ _ hez hoe, hce⟩
theorem aliveG {z TI TO : Addr} {n : Int} {o : Obj} {fl : Bool} {Q : Bool → Shared → Prop} (hz : IsZG s.heap z TI TO (.int n 0) fl) (hn : s.heap.get? n.toNat = some o) (h : ∀ h₁, IsZG h₁ z TI TO (.int n 0) true → Heap.SameBut z s.heap h₁ → Q false { s with heap := h₁ }) :
  wpAny (model prog w) A (Builtin.SmallTypes.ownedTupleIsFree (.ref z)) Q E s := by
 unfold Builtin.SmallTypes.ownedTupleIsFree
 refine wpAny_bind (wpAny_field hz rfl (x := .int n 0) rfl ?_)
 refine wpAny_bind (wpAny_alive ?_)
 rw [hn]
 refine wpAny_bind (wpAny_field hz rfl (x := .bool fl) rfl ?_)
 cases fl with
 | true => exact wpAny_pure (h s.heap hz ⟨rfl, fun _ _ => rfl⟩)
 | false => exact wpAny_bind (wpAny_setField_rec hz (by simp) fun h₁ hz₁ hs₁ => wpAny_pure (h h₁ hz₁ hs₁))
theorem zipG_alive {z TI TO i1 i2 : Addr} {f1 f2 : List Addr} {n1 n2 k : Nat} {P1 P2 : Nat → Value → Prop} {S1 S2 : Nat → Heap → Prop} {a b : Value} {Q : Value → Shared → Prop} (D1 : Draws prog w A i1 f1 n1 P1 S1) (D2 : Draws prog w A i2 f2 n2 P2 S2) (D : ZipFar z TI TO i1 i2 f1 f2)
  {n : Int} {o : Obj} {fl : Bool} (hz : IsZG s.heap z TI TO (.int n 0) fl) (hn : s.heap.get? n.toNat = some o) (hTI : IsPair s.heap TI (.ref i1) (.ref i2)) (hTO : IsPair s.heap TO a b) (t1 : S1 k s.heap) (t2 : S2 k s.heap) (hk1 : k < n1) (hk2 : k < n2)
  (hQ : ∀ x y h' tk, P1 k x → P2 k y → IsZG h' z TI TO (.int n 0) true → IsPair h' TO a b → S1 (k + 1) h' → S2 (k + 1) h' → IsPair h' s.heap.objs.size x y →
   (∀ c o, c ≠ z → c ≠ TO → c ≠ i1 → c ≠ i2 → s.heap.get? c = some o → h'.get? c = some o) → Q (.ref s.heap.objs.size) { s with heap := h', toks := tk }) :
  wpAny (model prog w) A (Builtin.«zip.__next__» ⟨[.ref z], []⟩) (fun fin s' => ∃ v, fin = .done (.ret v) ∧ Q v s') E s := by
 show wpAny _ _ (field (.ref z) 2 >>= _) _ _ _
 refine wpAny_bind (wpAny_field hz rfl (x := .bool false) rfl ?_)
 show wpAny _ _ (field (.ref z) 3 >>= _) _ _ _
 refine wpAny_bind (wpAny_field hz rfl (x := .ref TI) rfl (wpAny_bind (wpAny_seqItems hTI rfl ?_)))
 show wpAny _ _ (Builtin.SmallTypes.ownedTupleIsFree (.ref z) >>= _) _ _ _
 refine wpAny_bind (aliveG hz hn fun h₁ hz₁ hs₁ => ?_)
 simp only [Bool.false_eq_true, if_false]
 rw [← Array.forIn_toList]
 simp only [List.forIn_cons, List.forIn_nil]
 refine wpAny_bind (wpAny_bind (wpAny_bind (wpAny_holding ?_)))
 show wpAny _ _ (Builtin.SmallTypes.nextOf (.ref i1) >>= _) _ _ _
 have u1 : S1 k h₁ := D1.frame k _ _ t1 fun c hc o e => hs₁.extBut _ _ (fun q => D.z1 (q ▸ hc)) e
 refine wpAny_bind (D1.item k _ _ _ hk1 u1 fun x h₂ tk₂ hx v1 hs₂ => wpAny_pure (wpAny_pure ?_))
 refine wpAny_bind (wpAny_bind (wpAny_holding ?_))
 show wpAny _ _ (Builtin.SmallTypes.nextOf (.ref i2) >>= _) _ _ _
 have u2 : S2 k h₂ := D2.frame k _ _ t2 fun c hc o e => hs₂.extBut _ _ (fun q => D.c1 (q ▸ hc)) (hs₁.extBut _ _ (fun q => D.z2 (q ▸ hc)) e)
 refine wpAny_bind (D2.item k _ _ _ hk2 u2 fun y h₃ tk₃ hy v2 hs₃ => wpAny_pure (wpAny_pure (wpAny_pure ?_)))
 refine wpAny_bind (wpAny_newTuple (wpAny_pure ⟨_, rfl, ?_⟩) (by show 2 ≤ sizeLine; decide))
 have hsz : h₃.objs.size = s.heap.objs.size := by rw [hs₃.1, hs₂.1, hs₁.1]
 have up : ∀ c o, c ≠ z → c ≠ i1 → c ≠ i2 → s.heap.get? c = some o → (h₃.push { cls := .type "tuple", data := .seq #[x, y] }).get? c = some o := fun c o e1 e2 e3 e => Heap.get?_push_of_some _ (hs₃.extBut _ _ e3 (hs₂.extBut _ _ e2 (hs₁.extBut _ _ e1 e)))
 have hz₃ : IsZG h₃ z TI TO (.int n 0) true := hs₃.extBut _ _ D.jz.symm (hs₂.extBut _ _ D.iz.symm hz₁)
 have w1 : S1 (k + 1) h₃ := D1.frame _ _ _ v1 fun c hc o e => hs₃.extBut _ _ (fun q => D.c2 (q ▸ hc)) e
 show Q (.ref h₃.objs.size) _
 rw [hsz]
 refine hQ x y _ _ hx hy (Heap.get?_push_of_some _ hz₃) (up _ _ D.Oz D.O1 D.O2 hTO) (D1.frame _ _ _ w1 fun c hc o e => Heap.get?_push_of_some _ e) (D2.frame _ _ _ v2 fun c hc o e => Heap.get?_push_of_some _ e) ?_ fun c o e1 _ e3 e4 e => up c o e1 e3 e4 e
 rw [← hsz]
 exact Heap.get?_push_size _ rfl
theorem zipG_aliveEnd {z TI TO i1 i2 : Addr} {f1 f2 : List Addr} {n1 : Nat} {P1 : Nat → Value → Prop} {S1 : Nat → Heap → Prop} {Q : Fin → Shared → Prop} (D1 : Draws prog w A i1 f1 n1 P1 S1) (D : ZipFar z TI TO i1 i2 f1 f2)
  {n : Int} {o : Obj} {fl : Bool} (hz : IsZG s.heap z TI TO (.int n 0) fl) (hn : s.heap.get? n.toNat = some o) (hTI : IsPair s.heap TI (.ref i1) (.ref i2)) (t1 : S1 n1 s.heap)
  (hE : ∀ h' e, (∀ c o, c ≠ z → c ≠ i1 → s.heap.get? c = some o → h'.get? c = some o) → (∃ o, h'.get? e = some o ∧ o.cls = .type "StopIteration") → E (.ref e) { s with heap := h' }) :
  wpAny (model prog w) A (Builtin.«zip.__next__» ⟨[.ref z], []⟩) Q E s := by
 show wpAny _ _ (field (.ref z) 2 >>= _) _ _ _
 refine wpAny_bind (wpAny_field hz rfl (x := .bool false) rfl ?_)
 show wpAny _ _ (field (.ref z) 3 >>= _) _ _ _
 refine wpAny_bind (wpAny_field hz rfl (x := .ref TI) rfl (wpAny_bind (wpAny_seqItems hTI rfl ?_)))
 show wpAny _ _ (Builtin.SmallTypes.ownedTupleIsFree (.ref z) >>= _) _ _ _
 refine wpAny_bind (aliveG hz hn fun h₁ hz₁ hs₁ => ?_)
 simp only [Bool.false_eq_true, if_false]
 rw [← Array.forIn_toList]
 simp only [List.forIn_cons, List.forIn_nil]
 refine wpAny_bind (wpAny_bind (wpAny_bind (wpAny_holding ?_)))
 show wpAny _ _ (Builtin.SmallTypes.nextOf (.ref i1) >>= _) _ _ _
 have u1 : S1 n1 h₁ := D1.frame n1 _ _ t1 fun c hc o e => hs₁.extBut _ _ (fun q => D.z1 (q ▸ hc)) e
 refine wpAny_bind (D1.done _ _ _ u1 fun h₂ e hs₂ he => ?_)
 exact hE h₂ e (fun c o c1 c3 x => hs₂ _ _ c3 (hs₁.extBut _ _ c1 x)) he
theorem nextG_item {z TI TO i1 i2 : Addr} {f1 f2 : List Addr} {n1 n2 k : Nat} {P1 P2 : Nat → Value → Prop} {S1 S2 : Nat → Heap → Prop} {a b : Value} {out : Value} {fl : Bool} {Q : Option Value → Shared → Prop} (D1 : Draws prog w A.in1 i1 f1 n1 P1 S1) (D2 : Draws prog w A.in1 i2 f2 n2 P2 S2) (D : ZipFar z TI TO i1 i2 f1 f2)
  (hz : IsZG s.heap z TI TO out fl) (ho : out = .none ∨ ∃ n, out = .int n 0) (hTI : IsPair s.heap TI (.ref i1) (.ref i2)) (hTO : IsPair s.heap TO a b) (t1 : S1 k s.heap) (t2 : S2 k s.heap) (hk1 : k < n1) (hk2 : k < n2)
  (hQ : ∀ x y h' tk out' fl' u v, P1 k x → P2 k y → IsZG h' z TI TO out' fl' → (out' = .none ∨ ∃ n, out' = .int n 0) → IsPair h' TO u v → S1 (k + 1) h' → S2 (k + 1) h' → IsPair h' s.heap.objs.size x y →
   (∀ c o, c ≠ z → c ≠ TO → c ≠ i1 → c ≠ i2 → s.heap.get? c = some o → h'.get? c = some o) → Q (some (.ref s.heap.objs.size)) { s with heap := h', toks := tk }) :
  wpAny (model prog w) A (pyNext (.ref z)) Q E s := by
 have hT : s.TypeIs (.ref z) "zip" := ⟨_, hz, rfl⟩
 unfold pyNext
 refine wpAny_bind (wpAny_attempt (wpAny_callSpecial?_slot (name := Str.ofString "__next__") hT F.slot_zip_next (wpAny_call_entry F.slot_zip_next hT F.entry_zip_next ?_ (F.args_zip_next_1 _))))
 have free : (out = .none ∨ ∃ n, out = .int n 0 ∧ s.heap.get? n.toNat = none) ∨ ∃ n o, out = .int n 0 ∧ s.heap.get? n.toNat = some o := by
  rcases ho with e | ⟨n, e⟩
  ·exact .inl (.inl e)
  ·cases g : s.heap.get? n.toNat with
   | none => exact .inl (.inr ⟨n, e, g⟩)
   | some o => exact .inr ⟨n, o, e, g⟩
 rcases free with f | ⟨n, o, rfl, g⟩
 ·exact zipG_free D1 D2 D hz f hTI hTO t1 t2 hk1 hk2 fun x y h' tk q1 q2 a1 a2 a3 a4 a5 a6 => wpAny_pure (hQ x y h' tk _ _ _ _ q1 q2 a1 (.inr ⟨_, rfl⟩) a2 a3 a4 a5 a6)
 ·exact zipG_alive D1 D2 D hz g hTI hTO t1 t2 hk1 hk2 fun x y h' tk q1 q2 a1 a2 a3 a4 a5 a6 => wpAny_pure (hQ x y h' tk _ _ _ _ q1 q2 a1 (.inr ⟨_, rfl⟩) a2 a3 a4 a5 a6)
theorem nextG_end {z TI TO i1 i2 : Addr} {f1 f2 : List Addr} {n1 : Nat} {P1 : Nat → Value → Prop} {S1 : Nat → Heap → Prop} {out : Value} {fl : Bool} {Q : Option Value → Shared → Prop} (D1 : Draws prog w A.in1 i1 f1 n1 P1 S1) (D : ZipFar z TI TO i1 i2 f1 f2)
  (hz : IsZG s.heap z TI TO out fl) (ho : out = .none ∨ ∃ n, out = .int n 0) (hTI : IsPair s.heap TI (.ref i1) (.ref i2)) (t1 : S1 n1 s.heap)
  (hQ : ∀ h', (∀ c o, c ≠ z → c ≠ i1 → s.heap.get? c = some o → h'.get? c = some o) → Q none { s with heap := h' }) : wpAny (model prog w) A (pyNext (.ref z)) Q E s := by
 have hT : s.TypeIs (.ref z) "zip" := ⟨_, hz, rfl⟩
 unfold pyNext
 refine wpAny_bind (wpAny_attempt (wpAny_callSpecial?_slot (name := Str.ofString "__next__") hT F.slot_zip_next (wpAny_call_entry F.slot_zip_next hT F.entry_zip_next ?_ (F.args_zip_next_1 _))))
 have free : (out = .none ∨ ∃ n, out = .int n 0 ∧ s.heap.get? n.toNat = none) ∨ ∃ n o, out = .int n 0 ∧ s.heap.get? n.toNat = some o := by
  rcases ho with e | ⟨n, e⟩
  ·exact .inl (.inl e)
  ·cases g : s.heap.get? n.toNat with
   | none => exact .inl (.inr ⟨n, e, g⟩)
   | some o => exact .inr ⟨n, o, e, g⟩
 rcases free with f | ⟨n, o, rfl, g⟩
 ·refine zipG_freeEnd D1 D hz f hTI t1 fun h' e hk he => ?_
  obtain ⟨o, ho, hc⟩ := he
  exact wpAny_bind (wpAny_isInstance (T := "StopIteration") (b := true) ⟨o, ho, hc⟩ isSubtype_stop (wpAny_pure (hQ _ hk)))
 ·refine zipG_aliveEnd D1 D hz g hTI t1 fun h' e hk he => ?_
  obtain ⟨o, ho, hc⟩ := he
  exact wpAny_bind (wpAny_isInstance (T := "StopIteration") (b := true) ⟨o, ho, hc⟩ isSubtype_stop (wpAny_pure (hQ _ hk)))
theorem selfG {z TI TO : Addr} {out : Value} {fl : Bool} {Q : Value → Shared → Prop} (hz : IsZG s.heap z TI TO out fl) (h : Q (.ref z) s) : wpAny (model prog w) A (pyIter (.ref z)) Q E s :=
 wpAny_pyIter_slot (T := "zip") ⟨_, hz, rfl⟩ F.slot_zip_iter (wpAny_call_entry F.slot_zip_iter ⟨_, hz, rfl⟩ F.entry_zip_iter (show wpAny _ _ (ret (.ref z)) _ _ s from wpAny_pure ⟨_, rfl, "zip", _, ⟨_, hz, rfl⟩, F.slot_zip_next.lookup, h⟩) (F.args_zip_iter_1 _))
end
end PySem
namespace L2
open PySem PySem.Spec PyProof.Rows
theorem turn_zipN {P : Program} {w : World} {K : PySem.W.Frag} {nx : Str} {pos : Pos} {k : SeqK} (ok : k.Ok) (z TI TO i1 i2 a b : Addr) (D : ZipFar z TI TO i1 i2 [i1, a] [i2, b]) (ha : a ≠ i1) (hb : b ≠ i2) :
  Turn P w K (.Name nx pos) (Itz (fun H xs => k.Sq K H a xs) fun H ys => k.Sq K H b ys) [z, TI, TO, i1, i2] z (fun i h => (∃ out fl, IsZG h z TI TO out fl ∧ (out = .none ∨ ∃ n, out = .int n 0)) ∧ IsPair h TI (.ref i1) (.ref i2) ∧ (∃ u v, IsPair h TO u v) ∧ k.iit h i1 a i ∧ k.iit h i2 b i) where
 mem := by simp
 obj := fun i h st c hc => by
  obtain ⟨⟨out, fl, hz, ho⟩, hTI, ⟨u, v, hTO⟩, h1, h2⟩ := st
  simp only [List.mem_cons, List.not_mem_nil, or_false] at hc
  rcases hc with rfl | rfl | rfl | rfl | rfl
  ·exact ⟨_, hz, fun v z => by cases z⟩
  ·exact ⟨_, hTI, fun v z => by cases z⟩
  ·exact ⟨_, hTO, fun v z => by cases z⟩
  ·exact ok.obj h1
  ·exact ok.obj h2
 keep := fun i h h' st kp => by
  obtain ⟨⟨out, fl, hz, ho⟩, hTI, ⟨u, v, hTO⟩, h1, h2⟩ := st
  exact ⟨⟨out, fl, kp z (by simp) _ hz, ho⟩, kp TI (by simp) _ hTI, ⟨u, v, kp TO (by simp) _ hTO⟩, ok.at h1 fun o q => kp i1 (by simp) o q, ok.at h2 fun o q => kp i2 (by simp) o q⟩
 item := by
  intro X hP hw hK hc i pins s σ H E I hf st hg
  subst hP hw hK
  obtain ⟨⟨out, fl, hz, ho⟩, hTI, ⟨u, v, hTO⟩, h1, h2⟩ := st
  obtain ⟨xs, ys, x, y, q1, q2, e1, e2⟩ := hg
  obtain ⟨its, rv, p1⟩ := ok.get I q1
  obtain ⟨jts, rw', p2⟩ := ok.get I q2
  obtain ⟨ux, hux, rx⟩ := rv.get e1
  obtain ⟨uy, huy, ry⟩ := rw'.get e2
  have l1 : i < its.toArray.size := by rw [List.size_toArray]; exact (List.getElem?_eq_some_iff.mp hux).1
  have l2 : i < jts.toArray.size := by rw [List.size_toArray]; exact (List.getElem?_eq_some_iff.mp huy).1
  have hh : X.A.in1.handled = none := by simp [I.ok.hd hc]
  refine nextG_item (ok.dr hh i1 a ha its.toArray) (ok.dr hh i2 b hb jts.toArray) D hz ho hTI hTO ⟨h1, p1⟩ ⟨h2, p2⟩ l1 l2 fun vx vy h' tk out' fl' u' v' hvx hvy g1 g1o g2 g3 g4 g5 g6 => ?_
  have ex : vx = ux := by
   have e : its[i]? = some vx := by simpa using hvx
   rw [hux] at e; exact (Option.some.inj e).symm
  have ey : vy = uy := by
   have e : jts[i]? = some vy := by simpa using hvy
   rw [huy] at e; exact (Option.some.inj e).symm
  subst ex ey
  refine ⟨_, rfl, wpAny_pure ?_⟩
  have hn : H s.heap.objs.size = none := I.hok.fresh (Nat.le_refl _)
  have lz : ∀ {c o}, s.heap.get? c = some o → s.heap.objs.size ≠ c := fun e => Nat.ne_of_gt (Heap.lt_size e)
  have li1 : s.heap.objs.size ≠ i1 := let ⟨o, e, _⟩ := ok.obj h1; lz e
  have li2 : s.heap.objs.size ≠ i2 := let ⟨o, e, _⟩ := ok.obj h2; lz e
  have kp : ∀ c o, c ∉ [z, TI, TO, i1, i2] → s.heap.get? c = some o → h'.get? c = some o := fun c o hc' q => g6 c o (fun e => hc' (by simp [e])) (fun e => hc' (by simp [e])) (fun e => hc' (by simp [e])) (fun e => hc' (by simp [e])) q
  have I2 : Inv X pins σ (upd H s.heap.objs.size (.tup [x, y])) { s with heap := h', toks := tk } := I.turnLaid (fp := [z, TI, TO, i1, i2]) kp hf (Nat.le_refl _) ⟨by show 2 ≤ sizeLine; rw [sizeLine_eq]; decide, [vx, vy], .cons rx (.cons ry .nil), ⟨_, g5, rfl, _, rfl⟩⟩
  have hTI2 : IsPair h' TI (.ref i1) (.ref i2) := g6 _ _ D.Iz D.IO D.I1 D.I2 hTI
  refine ⟨.ref s.heap.objs.size, _, I2, rfl, ⟨s.heap.objs.size, x, y, rfl, hn, rfl, fun zs hz' => by rw [ok.inj I hz' q1]; exact e1, fun zs hz' => by rw [ok.inj I hz' q2]; exact e2⟩, ⟨⟨out', fl', g1, g1o⟩, hTI2, ⟨u', v', g2⟩, g3.1, g4.1⟩, fun c hc' => ?_⟩
  have hcz : c ≠ s.heap.objs.size := by
   simp only [List.mem_cons, List.not_mem_nil, or_false] at hc'
   rcases hc' with rfl | rfl | rfl | rfl | rfl
   ·exact (lz hz).symm
   ·exact (lz hTI).symm
   ·exact (lz hTO).symm
   ·exact li1.symm
   ·exact li2.symm
  rw [upd_ne hcz]; exact (hf c hc').1
 done := by
  intro X hP hw hK hc i pins s σ H E I hf st hg
  subst hP hw hK
  obtain ⟨⟨out, fl, hz, ho⟩, hTI, ⟨u, v, hTO⟩, h1, h2⟩ := st
  obtain ⟨xs, q1, hx⟩ := hg
  obtain ⟨its, rv, p1⟩ := ok.get I q1
  have hl := rv.length
  have hi : its.toArray.size = i := by rw [List.size_toArray, ← hl, hx]
  have hh : X.A.in1.handled = none := by simp [I.ok.hd hc]
  refine nextG_end (ok.dr hh i1 a ha its.toArray) D hz ho hTI (by rw [hi]; exact ⟨h1, p1⟩) fun h' hk => ⟨rfl, ?_⟩
  exact I.turnedL (fp := [z, TI, TO, i1, i2]) (t' := s.toks) (fun c o hc' q => hk c o (fun e => hc' (by simp [e])) (fun e => hc' (by simp [e])) q) hf
 self := fun _ _ _ _ _ st h => let ⟨_, _, hz, _⟩ := st.1; selfG hz h
section
variable {X : Cx}
theorem pi_zipN {a b : Expr} {ta : TA} {p pos : Pos} {nx : Str} {tpos : Pos} {k : SeqK} (ok : k.Ok) (hg : Gl X "zip") (hm : X.mg "zip" = none) (ha : PA X [a, b] ta) (hs : starEach [a, b] X.env = [(false, eval a X.env), (false, eval b X.env)] := by rfl) (hs2 : starEach [b] X.env = [(false, eval b X.env)] := by rfl) :
  PI X (.Name nx tpos) (.Call (.Name "zip" p) [a, b] [] pos) (iZip k X.K ta) := by
 intro pins s σ H R I h
 refine Call_ (ld_blt I hg hm boot_zip (PyProof.Rows.callWith_type1 (thn (ha pos pins s σ H _ I h) fun us s1 ⟨vs, H1, I1, r1, q1⟩ => ?_) (by rw [hs, hs2]) (by rw [hs2]; rfl)))
 obtain ⟨a', b', xs, ys, e, q1, q2, q⟩ := q1
 subst e
 obtain ⟨u, v, rfl, rx, ry⟩ := vals2 r1
 cases rx
 cases ry
 obtain ⟨its, rv, p1⟩ := ok.get I1 q1
 obtain ⟨jts, rw', p2⟩ := ok.get I1 q2
 have l1 := ok.lt p1
 have l2 := ok.lt p2
 refine ok.zip p1 p2 fun h' a1 a2 a3 a4 a5 a7 => ?_
 refine wpAny_pyIter_zip (s := { s1 with heap := h' }) a1 ?_
 have I2 : Inv X pins σ H1 { s1 with heap := h' } := I1.kept (t' := s1.toks) a7
 have far := zipFar_new s1.heap.objs.size a' b' l1 l2
 refine ⟨s1.heap.objs.size + 4, [s1.heap.objs.size + 4, s1.heap.objs.size + 2, s1.heap.objs.size + 3, s1.heap.objs.size, s1.heap.objs.size + 1], _, _, H1, rfl, I2, turn_zipN ok _ _ _ _ _ a' b' far (Nat.ne_of_lt l1) (Nat.ne_of_lt (Nat.lt_succ_of_lt l2)), ⟨⟨_, _, a1, .inl rfl⟩, a2, ⟨_, _, a3⟩, a4, a5⟩, fun c hc' => ?_, q⟩
 have hge : s1.heap.objs.size ≤ c := by
  simp only [List.mem_cons, List.not_mem_nil, or_false] at hc'
  rcases hc' with rfl | rfl | rfl | rfl | rfl
  ·exact Nat.le_add_right _ 4
  ·exact Nat.le_add_right _ 2
  ·exact Nat.le_add_right _ 3
  ·exact Nat.le_refl _
  ·exact Nat.le_succ _
 exact I1.fpOk hge (I1.hok.fresh hge)
end
end L2
namespace Wlk
open PySem PyProof.Rows Srt Cyc Grd
noncomputable def zipN (w : List Pl) : List WStep := w.zip (w.drop 1 ++ w.take 1)
section
variable {land : List Pl} {ss : List WStep}
theorem zip_orb (h : Of land ss) {s : WStep} (hs : s ∈ ss) : zipN (stones (orb (nxt ss) s)) = orb (nxt ss) s := by
 have R := h.rnd
 have p := R.per_is hs
 have hl : (stones (orb (nxt ss) s)).length = per (nxt ss) s := by unfold stones; rw [List.length_map, orb_len]
 have at' : ∀ i, i < per (nxt ss) s → (stones (orb (nxt ss) s))[i]? = some (it (nxt ss) i s).1 := fun i hi => by
  unfold stones orb
  rw [List.getElem?_map, List.getElem?_map, List.getElem?_range hi]; rfl
 have e2 : ∀ i, (it (nxt ss) i s).2 = (it (nxt ss) (i + 1) s).1 := fun i => ((h.nxt_mem (R.it_mem hs i)).2).symm
 have lr : (List.drop 1 (stones (orb (nxt ss) s)) ++ List.take 1 (stones (orb (nxt ss) s))).length = per (nxt ss) s := by
  rw [List.length_append, List.length_drop, List.length_take, hl]
  have := p.1
  omega
 refine List.ext_getElem? fun i => ?_
 unfold zipN
 by_cases hi : i < per (nxt ss) s
 ·have e1 : (orb (nxt ss) s)[i]? = some (it (nxt ss) i s) := by
   unfold orb
   rw [List.getElem?_map, List.getElem?_range hi]; rfl
  rw [e1]
  refine List.getElem?_zip_eq_some.mpr ⟨at' i hi, ?_⟩
  rw [e2]
  by_cases h1 : i + 1 < per (nxt ss) s
  ·rw [List.getElem?_append_left (by rw [List.length_drop, hl]; omega), List.getElem?_drop, show 1 + i = i + 1 by omega]
   exact at' (i + 1) h1
  ·have hp : i + 1 = per (nxt ss) s := by omega
   rw [List.getElem?_append_right (by rw [List.length_drop, hl]; omega), List.length_drop, hl, show i - (per (nxt ss) s - 1) = 0 by omega, List.getElem?_take_of_lt (by omega), at' 0 p.1, hp, p.2.1]
   rfl
 ·rw [List.getElem?_eq_none (by rw [List.length_zip, hl, lr]; omega), List.getElem?_eq_none (by rw [orb_len]; omega)]
theorem zip_walks (hn : land.Nodup) (h : Srtd ss (stepsU land)) : ((walksP ss).map zipN).flatten = (gone ss).2 := by
 have O := of_srt hn h
 have G := got_all O.rnd
 obtain ⟨ts, h1, h2⟩ := G.hd
 unfold walksP
 show (((gone ss).1.map stones).map zipN).flatten = _
 have e : (gone ss).2 = (gone ss).1.flatten := G.fl
 have e1 : (gone ss).1 = ts.map (orb (nxt ss)) := h2
 rw [e, e1, List.map_map, List.map_map]
 congr 1
 refine List.map_congr_left fun s hs => ?_
 exact zip_orb O (h1.subset hs)
theorem gone_perm (hn : land.Nodup) (h : Srtd ss (stepsU land)) : (gone ss).2.Perm (stepsU land) := by
 have O := of_srt hn h
 have G := got_all O.rnd
 refine List.Perm.trans ?_ h.1
 refine (List.perm_ext_iff_of_nodup G.nd O.nd).mpr fun x => ⟨G.sub x, G.all x⟩
end
noncomputable def crosses (x y : Int) (s : WStep) : Bool := decide (s.1.1 ≠ s.2.1) && decide (min s.1.1 s.2.1 = x) && decide (s.1.2 ≤ y)
theorem cross_cell (land : List Pl) (x y : Int) (c : Pl) : ((openS land c).filter (crosses x y)).length = (if c.1 = x ∧ c.2 + 1 ≤ y ∧ (c.1, c.2 + 1) ∉ land then 1 else 0) + (if c.1 = x ∧ c.2 ≤ y ∧ (c.1, c.2 - 1) ∉ land then 1 else 0) := by
 obtain ⟨a, b⟩ := c
 have k1 : crosses x y ((a, b), (a, b + 1)) = false := by unfold crosses; simp
 have k2 : crosses x y ((a, b + 1), (a + 1, b + 1)) = (decide (a = x) && decide (b + 1 ≤ y)) := by
  unfold crosses
  rw [decide_eq_true (show ((a, b + 1), (a + 1, b + 1)).1.1 ≠ ((a, b + 1), (a + 1, b + 1)).2.1 by show a ≠ a + 1; omega), Bool.true_and]
  show (decide (min a (a + 1) = x) && _) = _
  rw [show min a (a + 1) = a by omega]
 have k3 : crosses x y ((a + 1, b + 1), (a + 1, b)) = false := by unfold crosses; simp
 have k4 : crosses x y ((a + 1, b), (a, b)) = (decide (a = x) && decide (b ≤ y)) := by
  unfold crosses
  rw [decide_eq_true (show ((a + 1, b), (a, b)).1.1 ≠ ((a + 1, b), (a, b)).2.1 by show a + 1 ≠ a; omega), Bool.true_and]
  show (decide (min (a + 1) a = x) && _) = _
  rw [show min (a + 1) a = a by omega]
 unfold openS sidesP
 by_cases u1 : (a - 1, b) ∈ land <;> by_cases u2 : (a, b + 1) ∈ land <;> by_cases u3 : (a + 1, b) ∈ land <;> by_cases u4 : (a, b - 1) ∈ land <;>
  simp only [List.filter_cons, List.filter_nil, List.map_cons, List.map_nil, u1, u2, u3, u4, decide_true, decide_false, Bool.not_true, Bool.not_false, if_true, if_false, Bool.false_eq_true, k1, k2, k3, k4, not_true, not_false_iff, and_false, and_true, Nat.add_zero, Nat.zero_add, List.length_nil] <;>
  (by_cases v1 : a = x <;> by_cases v2 : b + 1 ≤ y <;> by_cases v3 : b ≤ y <;> simp [v1, v2, v3])
theorem sum_one {l : List Pl} (hn : l.Nodup) (p : Pl) (Q : Prop) [Decidable Q] : (l.map fun c => if c = p ∧ Q then 1 else 0).sum = if p ∈ l ∧ Q then 1 else 0 := by
 induction l with
 | nil => simp
 | cons a l ih =>
  have hn' := List.nodup_cons.mp hn
  rw [List.map_cons, List.sum_cons, ih hn'.2]
  by_cases q : Q
  ·by_cases e : a = p
   ·subst e
    simp [q, hn'.1]
   ·have e' : ¬ p = a := fun z => e z.symm
    simp [q, e, e']
  ·simp [q]
theorem sum_add {α : Type} (f g : α → Nat) : ∀ l : List α, (l.map fun c => f c + g c).sum = (l.map f).sum + (l.map g).sum
 | [] => rfl
 | a :: l => by rw [List.map_cons, List.sum_cons, sum_add f g l, List.map_cons, List.sum_cons, List.map_cons, List.sum_cons]; omega
theorem zsN {α : Type} : ∀ l : List α, (l.map fun _ => (0 : Nat)).sum = 0
 | [] => rfl
 | _ :: l => by rw [List.map_cons, List.sum_cons, zsN l]
theorem zsI {α : Type} : ∀ l : List α, (l.map fun _ => (0 : Int)).sum = 0
 | [] => rfl
 | _ :: l => by rw [List.map_cons, List.sum_cons, zsI l]; rfl
noncomputable def eC (land : List Pl) (x y : Int) (c : Pl) : Nat := (if c.1 = x ∧ c.2 + 1 ≤ y ∧ (c.1, c.2 + 1) ∉ land then 1 else 0) + (if c.1 = x ∧ c.2 ≤ y ∧ (c.1, c.2 - 1) ∉ land then 1 else 0)
theorem eC_succ (land : List Pl) (x y : Int) (c : Pl) : eC land x (y + 1) c = eC land x y c + ((if c = (x, y) ∧ (x, y + 1) ∉ land then 1 else 0) + (if c = (x, y + 1) ∧ (x, y) ∉ land then 1 else 0)) := by
 obtain ⟨a, b⟩ := c
 unfold eC
 dsimp only
 have p1 : ((a, b) : Pl) = (x, y) ↔ a = x ∧ b = y := Prod.mk.injEq _ _ _ _ ▸ Iff.rfl
 have p2 : ((a, b) : Pl) = (x, y + 1) ↔ a = x ∧ b = y + 1 := Prod.mk.injEq _ _ _ _ ▸ Iff.rfl
 by_cases v1 : a = x
 ·subst v1
  have h1 : (if a = a ∧ b + 1 ≤ y + 1 ∧ (a, b + 1) ∉ land then 1 else 0) = (if a = a ∧ b + 1 ≤ y ∧ (a, b + 1) ∉ land then 1 else 0) + (if ((a, b) : Pl) = (a, y) ∧ (a, y + 1) ∉ land then 1 else 0) := by
   by_cases e : b = y
   ·subst e
    have : ¬ b + 1 ≤ b := by omega
    simp [this]
   ·have e1 : (b + 1 ≤ y + 1) ↔ (b + 1 ≤ y) := by omega
    have e2 : ¬ ((a, b) : Pl) = (a, y) := fun z => e (p1.mp z).2
    simp only [e1, e2, false_and, if_false, Nat.add_zero]
  have h2 : (if a = a ∧ b ≤ y + 1 ∧ (a, b - 1) ∉ land then 1 else 0) = (if a = a ∧ b ≤ y ∧ (a, b - 1) ∉ land then 1 else 0) + (if ((a, b) : Pl) = (a, y + 1) ∧ (a, y) ∉ land then 1 else 0) := by
   by_cases e : b = y + 1
   ·subst e
    have : ¬ y + 1 ≤ y := by omega
    simp [this, Int.add_sub_cancel]
   ·have e1 : (b ≤ y + 1) ↔ (b ≤ y) := by omega
    have e2 : ¬ ((a, b) : Pl) = (a, y + 1) := fun z => e (p2.mp z).2
    simp only [e1, e2, false_and, if_false, Nat.add_zero]
  rw [h1, h2]; omega
 ·have q1 : ¬ ((a, b) : Pl) = (x, y) := fun z => v1 (p1.mp z).1
  have q2 : ¬ ((a, b) : Pl) = (x, y + 1) := fun z => v1 (p2.mp z).1
  simp [v1]
theorem eC_odd {land : List Pl} (hn : land.Nodup) (h0 : ∀ c ∈ land, 0 ≤ c.2) (x : Int) : ∀ n : Nat, (land.map (eC land x ((n : Int) - 1))).sum % 2 = if (x, (n : Int) - 1) ∈ land then 1 else 0
 | 0 => by
  have e1 : (land.map (eC land x (((0 : Nat) : Int) - 1))).sum = 0 := by
   rw [List.map_congr_left (g := fun _ => 0) fun c hc => ?_]
   ·exact zsN _
   ·have := h0 c hc
    unfold eC
    rw [if_neg (by omega), if_neg (by omega)]
  have e2 : (x, ((0 : Nat) : Int) - 1) ∉ land := fun z => by
   have h1 : (0 : Int) ≤ ((0 : Nat) : Int) - 1 := h0 _ z
   omega
  rw [e1, if_neg e2]
 | n + 1 => by
  have ih := eC_odd hn h0 x n
  have ey : (((n + 1 : Nat) : Int) - 1) = ((n : Int) - 1) + 1 := by omega
  rw [ey]
  have e1 : land.map (eC land x ((n : Int) - 1 + 1)) = land.map fun c => eC land x ((n : Int) - 1) c + ((if c = (x, (n : Int) - 1) ∧ (x, (n : Int) - 1 + 1) ∉ land then 1 else 0) + (if c = (x, (n : Int) - 1 + 1) ∧ (x, (n : Int) - 1) ∉ land then 1 else 0)) := List.map_congr_left fun c _ => eC_succ land x _ c
  rw [e1, sum_add, sum_add, sum_one hn, sum_one hn]
  by_cases u : (x, (n : Int) - 1) ∈ land <;> by_cases v : (x, (n : Int) - 1 + 1) ∈ land <;> simp only [u, v, if_true, if_false, not_true, not_false_iff, and_true, and_false] at ih ⊢ <;> omega
theorem flen {α β : Type} (f : α → List β) (p : β → Bool) : ∀ l : List α, (((l.map f).flatten).filter p).length = (l.map fun c => ((f c).filter p).length).sum
 | [] => rfl
 | a :: l => by rw [List.map_cons, List.flatten_cons, List.filter_append, List.length_append, flen f p l, List.map_cons, List.sum_cons]
theorem within_odd {land : List Pl} (hn : land.Nodup) (h0 : ∀ c ∈ land, 0 ≤ c.2) {gs : List WStep} (hp : gs.Perm (stepsU land)) (x y : Int) (hy : 0 ≤ y) : (gs.filter (crosses x y)).length % 2 = if (x, y) ∈ land then 1 else 0 := by
 rw [(hp.filter _).length_eq]
 unfold stepsU
 rw [flen]
 have e : (land.map fun c => ((openS land c).filter (crosses x y)).length) = land.map (eC land x y) := List.map_congr_left fun c _ => cross_cell land x y c
 rw [e]
 have := eC_odd hn h0 x (y.toNat + 1)
 rw [show (((y.toNat + 1 : Nat) : Int) - 1) = y by omega] at this
 exact this
theorem perm_sum {l l' : List Int} (h : l.Perm l') : l.sum = l'.sum := by
 induction h with
 | nil => rfl
 | cons _ _ ih => rw [List.sum_cons, List.sum_cons, ih]
 | swap _ _ _ => simp only [List.sum_cons]; omega
 | trans _ _ h1 h2 => rw [h1, h2]
noncomputable def turn (s : WStep) : Int := s.1.1 * s.2.2 - s.2.1 * s.1.2
theorem reindex {l : List Pl} (hn : l.Nodup) (u v : Pl → Pl) (huv : ∀ c, v (u c) = c) (hvu : ∀ c, u (v c) = c) (f : Pl → Int) : (l.map fun c => if u c ∈ l then f c else 0).sum = (l.map fun c => if v c ∈ l then f (v c) else 0).sum := by
 have key : ∀ (g : Pl → Int) (P : Pl → Prop) [DecidablePred P] (l : List Pl), (l.map fun c => if P c then g c else 0).sum = ((l.filter fun c => decide (P c)).map g).sum := fun g P _ l => by
  induction l with
  | nil => rfl
  | cons a l ih =>
   rw [List.map_cons, List.sum_cons, ih]
   by_cases z : P a
   ·rw [List.filter_cons_of_pos (by simpa using z), if_pos z, List.map_cons, List.sum_cons]
   ·rw [List.filter_cons_of_neg (by simpa using z), if_neg z]; omega
 rw [key f (fun c => u c ∈ l) l, key (fun c => f (v c)) (fun c => v c ∈ l) l]
 have hp : ((l.filter fun c => decide (u c ∈ l)).map u).Perm (l.filter fun c => decide (v c ∈ l)) := by
  refine (List.perm_ext_iff_of_nodup ?_ (hn.sublist List.filter_sublist)).mpr fun c => ?_
  ·rw [List.nodup_iff_pairwise_ne, List.pairwise_map]
   refine (List.nodup_iff_pairwise_ne.mp (hn.sublist List.filter_sublist)).imp fun {a b} hab e => hab ?_
   rw [← huv a, e, huv]
  ·constructor
   ·intro h
    obtain ⟨d, hd, rfl⟩ := List.mem_map.mp h
    obtain ⟨h1, h2⟩ := List.mem_filter.mp hd
    exact List.mem_filter.mpr ⟨by simpa using h2, by simpa [huv] using h1⟩
   ·intro h
    obtain ⟨h1, h2⟩ := List.mem_filter.mp h
    exact List.mem_map.mpr ⟨v c, List.mem_filter.mpr ⟨by simpa using h2, by simpa [hvu] using h1⟩, hvu c⟩
 have h2 := perm_sum (hp.map fun c => f (v c))
 rw [List.map_map] at h2
 rw [← h2]
 congr 1
 refine List.map_congr_left fun c _ => ?_
 show f c = f (v (u c))
 rw [huv]
theorem sumf {α : Type} (f : α → List WStep) : ∀ l : List α, (((l.map f).flatten).map turn).sum = (l.map fun c => ((f c).map turn).sum).sum
 | [] => rfl
 | a :: l => by rw [List.map_cons, List.flatten_cons, List.map_append, List.sum_append, sumf f l, List.map_cons, List.sum_cons]
theorem sum_addI {α : Type} (f g : α → Int) : ∀ l : List α, (l.map fun c => f c + g c).sum = (l.map f).sum + (l.map g).sum
 | [] => rfl
 | a :: l => by rw [List.map_cons, List.sum_cons, sum_addI f g l, List.map_cons, List.sum_cons, List.map_cons, List.sum_cons]; omega
theorem turn_cell (land : List Pl) (c : Pl) : ((openS land c).map turn).sum = (-2) + (((if (c.1 - 1, c.2) ∈ land then -c.1 else 0) + (if (c.1 + 1, c.2) ∈ land then c.1 + 1 else 0)) + ((if (c.1, c.2 + 1) ∈ land then c.2 + 1 else 0) + (if (c.1, c.2 - 1) ∈ land then -c.2 else 0))) := by
 obtain ⟨a, b⟩ := c
 have k1 : turn ((a, b), (a, b + 1)) = a := by show a * (b + 1) - a * b = a; rw [Int.mul_add]; omega
 have k2 : turn ((a, b + 1), (a + 1, b + 1)) = -(b + 1) := by show a * (b + 1) - (a + 1) * (b + 1) = _; rw [Int.add_mul]; omega
 have k3 : turn ((a + 1, b + 1), (a + 1, b)) = -(a + 1) := by show (a + 1) * b - (a + 1) * (b + 1) = _; rw [Int.mul_add (a + 1)]; omega
 have k4 : turn ((a + 1, b), (a, b)) = b := by show (a + 1) * b - a * b = b; rw [Int.add_mul]; omega
 unfold openS sidesP
 dsimp only
 by_cases u1 : (a - 1, b) ∈ land <;> by_cases u2 : (a, b + 1) ∈ land <;> by_cases u3 : (a + 1, b) ∈ land <;> by_cases u4 : (a, b - 1) ∈ land <;>
  simp only [List.filter_cons, List.filter_nil, List.map_cons, List.map_nil, u1, u2, u3, u4, decide_true, decide_false, Bool.not_true, Bool.not_false, if_true, if_false, Bool.false_eq_true, k1, k2, k3, k4, List.sum_cons, List.sum_nil] <;> omega
theorem area {land : List Pl} (hn : land.Nodup) {gs : List WStep} (hp : gs.Perm (stepsU land)) : (gs.map turn).sum = -2 * land.length := by
 rw [perm_sum (hp.map turn)]
 unfold stepsU
 rw [sumf, List.map_congr_left fun c _ => turn_cell land c, sum_addI, sum_addI, sum_addI, sum_addI]
 have r1 := reindex hn (fun c => (c.1 - 1, c.2)) (fun c => (c.1 + 1, c.2)) (fun c => by obtain ⟨a, b⟩ := c; simp) (fun c => by obtain ⟨a, b⟩ := c; simp) fun c => -c.1
 have r2 := reindex hn (fun c => (c.1, c.2 + 1)) (fun c => (c.1, c.2 - 1)) (fun c => by obtain ⟨a, b⟩ := c; simp) (fun c => by obtain ⟨a, b⟩ := c; simp) fun c => c.2 + 1
 have z1 : (land.map fun c => if (c.1 + 1, c.2) ∈ land then -(c.1 + 1) else (0 : Int)).sum + (land.map fun c => if (c.1 + 1, c.2) ∈ land then c.1 + 1 else (0 : Int)).sum = 0 := by
  rw [← sum_addI, List.map_congr_left (g := fun _ => (0 : Int)) fun c _ => by by_cases h : (c.1 + 1, c.2) ∈ land <;> simp [h] <;> omega]
  exact zsI _
 have z2 : (land.map fun c => if (c.1, c.2 - 1) ∈ land then (c.2 - 1) + 1 else (0 : Int)).sum + (land.map fun c => if (c.1, c.2 - 1) ∈ land then -c.2 else (0 : Int)).sum = 0 := by
  rw [← sum_addI, List.map_congr_left (g := fun _ => (0 : Int)) fun c _ => by by_cases h : (c.1, c.2 - 1) ∈ land <;> simp [h] <;> omega]
  exact zsI _
 rw [r1, r2, z1, z2]
 have : ∀ l : List Pl, (l.map fun _ => (-2 : Int)).sum = -2 * l.length := fun l => by
  induction l with
  | nil => rfl
  | cons a l ih => rw [List.map_cons, List.sum_cons, ih, List.length_cons]; omega
 rw [this]; omega
end Wlk
namespace Wlk
open PySem PyProof.Rows Srt Cyc Grd
noncomputable def beside (c : Pl) : List Pl := [(c.1 - 1, c.2), (c.1, c.2 - 1), (c.1, c.2 + 1), (c.1 + 1, c.2)]
theorem beside_sym {c d : Pl} (h : d ∈ beside c) : c ∈ beside d := by
 obtain ⟨a, b⟩ := c
 unfold beside at h ⊢
 simp only [List.mem_cons, List.not_mem_nil, or_false] at h ⊢
 rcases h with rfl | rfl | rfl | rfl
 ·right; right; right; simp
 ·right; right; left; simp
 ·right; left; simp
 ·left; simp
theorem side_beside {c : Pl} {b : Pl × WStep} (h : b ∈ sidesP c) : b.1 ∈ beside c := by
 unfold sidesP at h
 unfold beside
 simp only [List.mem_cons, List.not_mem_nil, or_false] at h ⊢
 rcases h with rfl | rfl | rfl | rfl <;> simp
noncomputable def Closed (land P : List Pl) : Prop := ∀ x ∈ P, ∀ y ∈ beside x, y ∈ land → y ∈ P
theorem open_congr {l l' : List Pl} {c : Pl} (h : ∀ y ∈ beside c, (y ∈ l ↔ y ∈ l')) : openS l c = openS l' c := by
 unfold openS
 congr 1
 refine List.filter_congr fun b hb => ?_
 rw [Bool.eq_iff_iff]
 simp [h b.1 (side_beside hb)]
structure Piece (land : List Pl) (s : Pl) (P : List Pl) : Prop where
 sub : ∀ x ∈ P, x ∈ land
 st : s ∈ P
 cl : Closed land P
 min : ∀ C, Closed land C → (∃ x ∈ P, x ∈ C) → s ∈ C
 up : P.Pairwise ltP
structure Pcs (land q : List Pl) (ps : List (List Pl)) : Prop where
 all : ∀ x ∈ q, ∃ P ∈ ps, x ∈ P
 sub : ∀ P ∈ ps, ∀ x ∈ P, x ∈ land
 cl : ∀ P ∈ ps, Closed land P
 up : ∀ P ∈ ps, P.Pairwise ltP
 dj : ps.Pairwise fun P R => ∀ x ∈ P, x ∉ R
theorem Pcs.nil (land : List Pl) : Pcs land [] [] := ⟨fun _ h => (List.not_mem_nil h).elim, fun _ h => (List.not_mem_nil h).elim, fun _ h => (List.not_mem_nil h).elim, fun _ h => (List.not_mem_nil h).elim, .nil⟩
theorem Pcs.old {land q : List Pl} {ps : List (List Pl)} (h : Pcs land q ps) {c : Pl} (hc : ∃ P ∈ ps, c ∈ P) : Pcs land (q ++ [c]) ps := ⟨fun x hx => by
 rcases List.mem_append.mp hx with y | y
 ·exact h.all x y
 ·rw [List.mem_singleton.mp y]; exact hc, h.sub, h.cl, h.up, h.dj⟩
theorem Pcs.new {land q : List Pl} {ps : List (List Pl)} (h : Pcs land q ps) {c : Pl} {N : List Pl} (hN : Piece land c N) (hc : ∀ P ∈ ps, c ∉ P) : Pcs land (q ++ [c]) (ps ++ [N]) := by
 refine ⟨fun x hx => ?_, fun P hP => ?_, fun P hP => ?_, fun P hP => ?_, ?_⟩
 ·rcases List.mem_append.mp hx with y | y
  ·obtain ⟨P, h1, h2⟩ := h.all x y
   exact ⟨P, List.mem_append_left _ h1, h2⟩
  ·rw [List.mem_singleton.mp y]
   exact ⟨N, List.mem_append_right _ List.mem_cons_self, hN.st⟩
 ·rcases List.mem_append.mp hP with y | y
  ·exact h.sub P y
  ·rw [List.mem_singleton.mp y]; exact hN.sub
 ·rcases List.mem_append.mp hP with y | y
  ·exact h.cl P y
  ·rw [List.mem_singleton.mp y]; exact hN.cl
 ·rcases List.mem_append.mp hP with y | y
  ·exact h.up P y
  ·rw [List.mem_singleton.mp y]; exact hN.up
 ·rw [List.pairwise_append]
  refine ⟨h.dj, List.pairwise_singleton _ _, fun P hP R hR x hx hxR => ?_⟩
  rw [List.mem_singleton.mp hR] at hxR
  exact hc P hP (hN.min P (h.cl P hP) ⟨x, hxR, hx⟩)
theorem lenU (land : List Pl) : ∀ l : List Pl, ((l.map (openS land)).flatten).length = (l.map fun c => (openS land c).length).sum
 | [] => rfl
 | a :: l => by rw [List.map_cons, List.flatten_cons, List.length_append, lenU land l, List.map_cons, List.sum_cons]
theorem perm_sumN {l l' : List Nat} (h : l.Perm l') : l.sum = l'.sum := by
 induction h with
 | nil => rfl
 | cons _ _ ih => rw [List.sum_cons, List.sum_cons, ih]
 | swap _ _ _ => simp only [List.sum_cons]; omega
 | trans _ _ h1 h2 => rw [h1, h2]
theorem pieces_sum {land : List Pl} {ps : List (List Pl)} (hn : land.Nodup) (h : Pcs land land ps) : (ps.map fun P => (stepsU P).length).sum = (stepsU land).length := by
 have hp : ps.flatten.Perm land := by
  refine (List.perm_ext_iff_of_nodup ?_ hn).mpr fun x => ?_
  ·rw [List.nodup_iff_pairwise_ne, List.pairwise_flatten]
   exact ⟨fun P hP => List.nodup_iff_pairwise_ne.mp (up_nd (h.up P hP)), h.dj.imp fun {P R} hd x hx y hy e => by subst e; exact hd x hx hy⟩
  ·constructor
   ·intro hx
    obtain ⟨P, h1, h2⟩ := List.mem_flatten.mp hx
    exact h.sub P h1 x h2
   ·intro hx
    obtain ⟨P, h1, h2⟩ := h.all x hx
    exact List.mem_flatten.mpr ⟨P, h1, h2⟩
 unfold stepsU
 rw [lenU, ← perm_sumN (hp.map fun c => (openS land c).length)]
 have key : ∀ qs : List (List Pl), (∀ P ∈ qs, P ∈ ps) → (qs.map fun P => ((P.map (openS P)).flatten).length).sum = ((qs.flatten).map fun c => (openS land c).length).sum := fun qs => by
  induction qs with
  | nil => intro _; rfl
  | cons P qs ih =>
   intro hq
   have hP := hq P List.mem_cons_self
   rw [List.map_cons, List.sum_cons, ih fun R hR => hq R (List.mem_cons_of_mem _ hR), List.flatten_cons, List.map_append, List.sum_append, lenU]
   congr 1
   congr 1
   refine List.map_congr_left fun c hc => ?_
   rw [open_congr fun y hy => ⟨fun z => h.sub P hP y z, fun z => h.cl P hP c hc y hy z⟩]
 exact key ps fun P hP => hP
theorem up_sub : ∀ {l l' : List Pl}, l.Pairwise ltP → l'.Pairwise ltP → (∀ x ∈ l, x ∈ l') → l.Sublist l'
 | [], l', _, _, _ => List.nil_sublist _
 | a :: l, [], _, _, h => by have := h a List.mem_cons_self; cases this
 | a :: l, b :: l', h1, h2, h => by
  have h1' := List.pairwise_cons.mp h1
  have h2' := List.pairwise_cons.mp h2
  have irr : ∀ x : Pl, ¬ ltP x x := fun x z => by unfold ltP at z; rw [lex_irr'] at z; cases z
  have tr : ∀ {x y z : Pl}, ltP x y → ltP y z → ltP x z := fun p q => lex_tr p q
  by_cases e : a = b
  ·subst e
   refine List.Sublist.cons₂ _ (up_sub h1'.2 h2'.2 fun x hx => ?_)
   rcases List.mem_cons.mp (h x (List.mem_cons_of_mem _ hx)) with y | y
   ·subst y; exact absurd (h1'.1 x hx) (irr x)
   ·exact y
  ·refine List.Sublist.cons _ (up_sub h1 h2'.2 fun x hx => ?_)
   rcases List.mem_cons.mp (h x hx) with y | y
   ·subst y
    have ha : a ∈ l' := (List.mem_cons.mp (h a List.mem_cons_self)).resolve_left e
    rcases List.mem_cons.mp hx with z | z
    ·exact absurd z.symm e
    ·exact absurd (tr (h1'.1 x z) (h2'.1 a ha)) (irr a)
   ·exact y
noncomputable def nOpen (A : List Pl) (nu : Pl → Int) (c : Pl) : Int := (if (c.1 - 1, c.2) ∈ A then (if nu (c.1 - 1, c.2) ≠ nu c then 1 else 0) else 0) + (if (c.1 + 1, c.2) ∈ A then (if nu (c.1 + 1, c.2) ≠ nu c then 1 else 0) else 0) + ((if (c.1, c.2 + 1) ∈ A then (if nu (c.1, c.2 + 1) ≠ nu c then 1 else 0) else 0) + (if (c.1, c.2 - 1) ∈ A then (if nu (c.1, c.2 - 1) ≠ nu c then 1 else 0) else 0))
noncomputable def nFen (A : List Pl) (nu : Pl → Int) (c : Pl) : Int := (if (c.1 + 1, c.2) ∈ A then (if nu (c.1 + 1, c.2) ≠ nu c then 1 else 0) else 0) + (if (c.1, c.2 + 1) ∈ A then (if nu (c.1, c.2 + 1) ≠ nu c then 1 else 0) else 0)
theorem fen_twice {A : List Pl} (hn : A.Nodup) (nu : Pl → Int) : (A.map (nOpen A nu)).sum = 2 * (A.map (nFen A nu)).sum := by
 have r1 := reindex hn (fun c => (c.1 - 1, c.2)) (fun c => (c.1 + 1, c.2)) (fun c => by obtain ⟨a, b⟩ := c; simp) (fun c => by obtain ⟨a, b⟩ := c; simp) fun c => if nu (c.1 - 1, c.2) ≠ nu c then 1 else 0
 have r2 := reindex hn (fun c => (c.1, c.2 - 1)) (fun c => (c.1, c.2 + 1)) (fun c => by obtain ⟨a, b⟩ := c; simp) (fun c => by obtain ⟨a, b⟩ := c; simp) fun c => if nu (c.1, c.2 - 1) ≠ nu c then 1 else 0
 have e1 : (A.map fun c : Pl => if (c.1 + 1, c.2) ∈ A then (if nu ((c.1 + 1, c.2).1 - 1, (c.1 + 1, c.2).2) ≠ nu (c.1 + 1, c.2) then (1 : Int) else 0) else 0) = A.map fun c : Pl => if (c.1 + 1, c.2) ∈ A then (if nu (c.1 + 1, c.2) ≠ nu c then 1 else 0) else 0 := List.map_congr_left fun c _ => by
  obtain ⟨a, b⟩ := c
  simp only [Int.add_sub_cancel]
  by_cases z : nu (a, b) = nu (a + 1, b)
  ·simp [z]
  ·have z' : ¬ nu (a + 1, b) = nu (a, b) := fun y => z y.symm
   simp [z, z']
 have e2 : (A.map fun c : Pl => if (c.1, c.2 + 1) ∈ A then (if nu ((c.1, c.2 + 1).1, (c.1, c.2 + 1).2 - 1) ≠ nu (c.1, c.2 + 1) then (1 : Int) else 0) else 0) = A.map fun c : Pl => if (c.1, c.2 + 1) ∈ A then (if nu (c.1, c.2 + 1) ≠ nu c then 1 else 0) else 0 := List.map_congr_left fun c _ => by
  obtain ⟨a, b⟩ := c
  simp only [Int.add_sub_cancel]
  by_cases z : nu (a, b) = nu (a, b + 1)
  ·simp [z]
  ·have z' : ¬ nu (a, b + 1) = nu (a, b) := fun y => z y.symm
   simp [z, z']
 rw [e1] at r1
 rw [e2] at r2
 unfold nOpen nFen
 rw [sum_addI, sum_addI, sum_addI, sum_addI, r1, r2]
 omega
noncomputable def inN (l : List Pl) (y : Pl) : Int := if y ∈ l then 0 else 1
theorem open_len (l : List Pl) (c : Pl) : ((openS l c).length : Int) = inN l (c.1 - 1, c.2) + inN l (c.1 + 1, c.2) + (inN l (c.1, c.2 + 1) + inN l (c.1, c.2 - 1)) := by
 unfold openS sidesP inN
 by_cases u1 : (c.1 - 1, c.2) ∈ l <;> by_cases u2 : (c.1, c.2 + 1) ∈ l <;> by_cases u3 : (c.1 + 1, c.2) ∈ l <;> by_cases u4 : (c.1, c.2 - 1) ∈ l <;>
  simp [List.filter_cons, u1, u2, u3, u4]
theorem inN_flt (A : List Pl) (nu : Pl → Int) (h : Int) (y : Pl) : inN (A.filter fun d => decide (nu d = h)) y = inN A y + (if y ∈ A then (if nu y ≠ h then 1 else 0) else 0) := by
 unfold inN
 by_cases u : y ∈ A
 ·by_cases v : nu y = h
  ·simp [u, v]
  ·simp [u, v]
 ·simp [u]
theorem open_num (A : List Pl) (nu : Pl → Int) (c : Pl) : ((openS (A.filter fun d => decide (nu d = nu c)) c).length : Int) = (openS A c).length + nOpen A nu c := by
 rw [open_len, open_len, inN_flt, inN_flt, inN_flt, inN_flt]
 unfold nOpen
 omega
theorem lenUI (land : List Pl) (l : List Pl) : ((((l.map (openS land)).flatten).length : Nat) : Int) = (l.map fun c => ((openS land c).length : Int)).sum := by
 rw [lenU]
 induction l with
 | nil => rfl
 | cons a l ih => rw [List.map_cons, List.sum_cons, List.map_cons, List.sum_cons, ← ih]; omega
theorem one_holder (A : List Pl) (nu : Pl → Int) (h : Int) : ((stepsU (A.filter fun d => decide (nu d = h))).length : Int) = ((A.map fun c => if nu c = h then ((openS A c).length : Int) + nOpen A nu c else 0)).sum := by
 unfold stepsU
 rw [lenUI]
 have key : ∀ l : List Pl, ((l.filter fun d => decide (nu d = h)).map fun c => ((openS (A.filter fun d => decide (nu d = h)) c).length : Int)).sum = (l.map fun c => if nu c = h then ((openS A c).length : Int) + nOpen A nu c else 0).sum := fun l => by
  induction l with
  | nil => rfl
  | cons a l ih =>
   rw [List.map_cons, List.sum_cons, ← ih]
   by_cases z : nu a = h
   ·subst z
    rw [List.filter_cons_of_pos (by simp), List.map_cons, List.sum_cons, if_pos rfl, open_num]
   ·rw [List.filter_cons_of_neg (by simpa using z), if_neg z]; omega
 exact key A
theorem holders_sum {A : List Pl} (hn : A.Nodup) (nu : Pl → Int) (h4 : ∀ c ∈ A, nu c = 0 ∨ nu c = 1 ∨ nu c = 2 ∨ nu c = 3) :
  ((stepsU (A.filter fun d => decide (nu d = 0))).length : Int) + (stepsU (A.filter fun d => decide (nu d = 1))).length + (stepsU (A.filter fun d => decide (nu d = 2))).length + (stepsU (A.filter fun d => decide (nu d = 3))).length = (stepsU A).length + 2 * (A.map (nFen A nu)).sum := by
 rw [one_holder, one_holder, one_holder, one_holder, ← sum_addI, ← sum_addI, ← sum_addI, ← fen_twice hn nu]
 have e : (A.map fun c => (if nu c = 0 then ((openS A c).length : Int) + nOpen A nu c else 0) + (if nu c = 1 then ((openS A c).length : Int) + nOpen A nu c else 0) + (if nu c = 2 then ((openS A c).length : Int) + nOpen A nu c else 0) + (if nu c = 3 then ((openS A c).length : Int) + nOpen A nu c else 0)) = A.map fun c => ((openS A c).length : Int) + nOpen A nu c := List.map_congr_left fun c hc => by
  rcases h4 c hc with z | z | z | z <;> rw [z] <;> simp
 rw [e, sum_addI]
 unfold stepsU
 rw [lenUI]
end Wlk
namespace L2
open PySem PySem.Spec PyProof.Rows Grd Wlk
theorem all_true {α : Type} (l : List α) : (l.map fun _ => true).all id = true := by rw [List.all_map]; exact List.all_eq_true.mpr fun _ _ => rfl
theorem e3PlSame {H : Hp} : ∀ {ps qs : List Addr} {cs : List (Int × Int)}, PlAt H ps cs → PlAt H qs cs → E3 (EqD H 1) (ps.map V.ref) (qs.map V.ref) (cs.map fun _ => true)
 | _, _, _, .nil, .nil => trivial
 | _, _, _, .cons r1 t1, .cons r2 t2 => ⟨by have := eqPl r1 r2 0; rwa [decide_eq_true rfl] at this, e3PlSame t1 t2⟩
theorem eqSq {H : Hp} {p q : Addr} {cs : List (Int × Int)} (h1 : SqA H p cs) (h2 : SqA H q cs) : EqD H 2 (.ref p) (.ref q) true := by
 obtain ⟨ps, a1, a2⟩ := h1
 obtain ⟨qs, b1, b2⟩ := h2
 exact .inr ⟨p, q, _, _, _, rfl, rfl, .inl ⟨a1, b1⟩, e3PlSame a2 b2, (all_true cs).symm⟩
theorem e3Wk {H : Hp} : ∀ {ws vs : List Addr} {o : List (List (Int × Int))}, Paired (SqA H) ws o → Paired (SqA H) vs o → E3 (EqD H 2) (ws.map V.ref) (vs.map V.ref) (o.map fun _ => true)
 | _, _, _, .nil, .nil => trivial
 | _, _, _, .cons r1 t1, .cons r2 t2 => ⟨eqSq r1 r2, e3Wk t1 t2⟩
end L2
namespace M50
open PySem L2 PyProof.Rows Grd Wlk Cyc
noncomputable abbrev sCellsOf : Stmt := top 22
noncomputable abbrev sBeside : Stmt := top 24
noncomputable abbrev sIsWalk : Stmt := top 38
noncomputable abbrev sAreWalks : Stmt := top 39
noncomputable abbrev sHold : Stmt := top 40
noncomputable def spBeside : Sp := fun vs H Q _ => ∃ p c, vs = [.ref p] ∧ PlA H p c ∧ ∀ l qs H', H l = none → Same H H' → H' l = some (.lst ((qs : List Addr).map V.ref)) → PlAt H' qs (beside c) → Q (.ref l) H'
noncomputable def spIsWalk : Sp := fun vs H Q _ => ∃ q cs, vs = [.ref q] ∧ SqA H q cs ∧ cs.length ≤ 1000 ∧ ∀ H', Same H H' → Q (.bl true) H'
noncomputable def spAreWalks : Sp := fun vs H Q _ => ∃ l o, vs = [.ref l] ∧ WkL H l o ∧ o.length ≤ 1000 ∧ (∀ c ∈ o, c.length ≤ 1000) ∧ ∀ H', Same H H' → Q (.bl true) H'
noncomputable def spHold : Sp := fun vs H Q _ => ∃ a t l g w cs ss, vs = [.ref a, .ref t, .ref l] ∧ GridAt H a g ∧ Good g w ∧ SqA H t cs ∧ LandOf g cs ∧ Srtd ss (stepsU cs) ∧ WkL H l (walksP ss) ∧ ∀ H', Same H H' → Q (.bl true) H'
theorem WkL.same {H H' : Hp} {l : Addr} {o : List (List Pl)} (h : WkL H l o) (s : Same H H') : WkL H' l o := let ⟨ws, h1, h2⟩ := h; ⟨ws, s _ _ h1, Paired.mapP h2 fun _ _ z => z.same s⟩
theorem walks40 {cs : List Pl} {ss : List WStep} (hn : cs.Nodup) (so : Srtd ss (stepsU cs)) (h40 : ss.length ≤ 40) : (walksP ss).length ≤ 40 := by
 have hsum := walks_sum hn so
 have : ∀ l : List (List Pl), (∀ w ∈ l, 1 ≤ w.length) → l.length ≤ (l.map List.length).sum := fun l => by
  induction l with
  | nil => intro _; simp
  | cons x l ih =>
   intro h
   have h1 := ih fun w hw => h w (List.mem_cons_of_mem _ hw)
   have h2 := h x List.mem_cons_self
   rw [List.length_cons, List.map_cons, List.sum_cons]; omega
 have := this (walksP ss) fun w hw => List.length_pos_iff.mpr (walks_ne hn so w hw)
 omega
theorem walk_short {cs : List Pl} {ss : List WStep} (hn : cs.Nodup) (so : Srtd ss (stepsU cs)) (h40 : ss.length ≤ 40) : ∀ c ∈ walksP ss, c.length ≤ 40 := fun c hc => by
 have h1 := walks_sum hn so
 have h2 : c.length ≤ ((walksP ss).map List.length).sum := le_sum (List.mem_map.mpr ⟨c, hc, rfl⟩)
 omega
theorem ss40 {cs : List Pl} {ss : List WStep} (h10 : cs.length ≤ 10) (so : Srtd ss (stepsU cs)) : ss.length ≤ 40 := by
 have h1 := so.1.length_eq
 have h2 := stepsU_len cs cs
 unfold stepsU at h1
 omega
section
variable {P : Program} {w : World} {K : PySem.W.Frag} {mg : Str → Option Value} {base : Heap}
theorem scCellsOf : FnScope ["mead"] ["mead"] (defScope sCellsOf) := ⟨rfl, rfl, rfl, by decide +kernel, rfl, by decide +kernel, by decide +kernel⟩
theorem ok_cellsOf {f gC gP : Addr} {fd dC dP : FuncData} (F : Fun K "cells_of" "cells_of" sCellsOf f fd) (aC : At P w K mg base CX0 5 "check_mead" gC dC ["mead"] spCheck) (aP : At P w K mg base CX0 1 "places_of_cells" gP dP ["mead"] (spGrid pos)) : FnOk P w K mg base CX0 6 f fd ["mead"] (spGrid pos) := by
 refine F.ok scCellsOf (fun vs H Q E h => ?_) (fun cdv A outer s H vs Q E hr h => ?_)
 ·obtain ⟨a, g, w', rfl, _⟩ := h; rfl
 ·obtain ⟨a, g, w', rfl, hA, G, q⟩ := h
  refine ⟨_, pss_cons (ps_expr (pe_call aC.ok hr rfl aC.nm aC.kp aC.bd .nil pass0 (pa_v (pv 0) pa_nil))) <| pss_one (ps_ret (pe_call aP.ok (hr.mono (by decide)) rfl aP.nm aP.kp aP.bd .nil pass0 (pa_v (pv 0) pa_nil))), ?_⟩
  refine ⟨_, rfl, a, g, w', rfl, hA, G, fun H1 s1 => ?_⟩
  exact ⟨_, rfl, a, g, w', rfl, hA.same s1, G, fun H2 l ps hl s2 hl' hP => q H2 l ps (s1.free hl) (s1.trans s2) hl' hP⟩
noncomputable abbrev nBs : List Str := ["place", "row", "column"]
theorem scBeside : FnScope nBs ["place"] (defScope sBeside) := ⟨rfl, rfl, rfl, by decide +kernel, rfl, by decide +kernel, by decide +kernel⟩
theorem ok_beside {f : Addr} {fd : FuncData} (F : Fun K "places_beside" "places_beside" sBeside f fd) : FnOk P w K mg base CX0 1 f fd ["place"] spBeside := by
 refine F.ok scBeside (fun vs H Q E h => ?_) (fun cdv A outer s H vs Q E hr h => ?_)
 ·obtain ⟨p, c, rfl, _⟩ := h; rfl
 ·obtain ⟨p, c, rfl, hp, q⟩ := h
  have nd := scBeside.nd
  refine ⟨_, pss_cons2q (ps_asg (pv 0) (pg_tup rfl (pgs_cons (pg_name (i := 1) nd rfl (Or.inl rfl)) (pgs_cons (pg_name (i := 2) nd rfl (Or.inl rfl)) pgs_nil)))) <|
   retE (lstq (pq_tq (tupq (pq_b (pe_op op_sub (pv 1) pe_int) (pq_v (pv 2) pq_nil))) (pq_tq (tupq (pq_v (pv 1) (pq_b (pe_op op_sub (pv 2) pe_int) pq_nil))) (pq_tq (tupq (pq_v (pv 1) (pq_b (pe_op op_add (pv 2) pe_int) pq_nil))) (pq_tq (tupq (pq_b (pe_op op_add (pv 1) pe_int) (pq_v (pv 2) pq_nil))) pq_nil))))), ?_⟩
  refine ⟨_, rfl, p, _, rfl, SqT.of hp, rfl, _, _, rfl, _, _, rfl, rfl, ?_⟩
  dsimp only
  refine retLst ?_
  refine ⟨_, rfl, _, _, rfl, rfl, _, rfl, by show 2 ≤ sizeLine; decide, fun p1 h1 => ?_⟩
  have s1 := same_upd (o := .tup [.int (c.1 - 1), .int c.2]) h1
  refine ⟨_, rfl, _, rfl, _, _, rfl, rfl, by show 2 ≤ sizeLine; decide, fun p2 h2 => ?_⟩
  have s2 := same_upd (o := .tup [.int c.1, .int (c.2 - 1)]) h2
  refine ⟨_, rfl, _, rfl, _, _, rfl, rfl, by show 2 ≤ sizeLine; decide, fun p3 h3 => ?_⟩
  have s3 := same_upd (o := .tup [.int c.1, .int (c.2 + 1)]) h3
  refine ⟨_, rfl, _, _, rfl, rfl, _, rfl, by show 2 ≤ sizeLine; decide, fun p4 h4 => ?_⟩
  have s4 := same_upd (o := .tup [.int (c.1 + 1), .int c.2]) h4
  refine ⟨by show 4 ≤ sizeLine; decide, fun l hl => ?_⟩
  have s5 := same_upd (o := .lst [.ref p1, .ref p2, .ref p3, .ref p4]) hl
  have s14 := ((s1.trans s2).trans s3).trans s4
  exact q l [p1, p2, p3, p4] _ (s14.free hl) (s14.trans s5) upd_same (.cons (s5 _ _ (s4 _ _ (s3 _ _ (s2 _ _ upd_same)))) (.cons (s5 _ _ (s4 _ _ (s3 _ _ upd_same))) (.cons (s5 _ _ (s4 _ _ upd_same)) (.cons (s5 _ _ upd_same) .nil))))
theorem scIsWalk : FnScope ["thing"] ["thing"] (defScope sIsWalk) := ⟨rfl, rfl, rfl, by decide +kernel, rfl, by decide +kernel, by decide +kernel⟩
theorem ndSt : (["stone"] : List Str).Nodup := by decide +kernel
theorem ok_isWalk {f g1 : Addr} {fd d1 : FuncData} (F : Fun K "is_walk" "is_walk" sIsWalk f fd) (T : Txt mg) (a1 : At P w K mg base CX0 2 "is_pair_of_numbers" g1 d1 ["thing"] spPair) : FnOk P w K mg base CX0 3 f fd ["thing"] spIsWalk := by
 refine F.ok scIsWalk (fun vs H Q E h => ?_) (fun cdv A outer s H vs Q E hr h => ?_)
 ·obtain ⟨q, cs, rfl, _⟩ := h; rfl
 ·obtain ⟨t, cs, rfl, ⟨ps, ht, hP⟩, hz, q⟩ := h
  have hlen : ps.length = cs.length := Paired.length hP
  refine ⟨_, pss_one (ps_ret (pe_and (pe_callB call_isinst rfl T.isinstance boot_isinstance (pa_v (pv 0) (pa_v (pe_bltn (v := .ty "tuple") rfl T.tuple boot_tuple rfl) pa_nil))) (pe_one (pe_callB (call_all rfl) rfl T.all boot_all (pa_lc (pe_comp1 (defScope sIsWalk).names ["thing"] ["stone"] [] rfl (pi_tup (pv 0)) rfl rfl rfl (by decide +kernel)
   (fun Z => pg_name (i := 0) ndSt rfl (Or.inl rfl)) (fun Z => pts_nil) (fun Z => pe_call a1.ok hr rfl a1.nm a1.kp a1.bd .nil pass0 (pa_v (pv 0) pa_nil))) pa_nil))))), ?_⟩
  refine ⟨_, rfl, _, "tuple", .type "tuple", true, rfl, .tup ht, kit_same _, _, rfl, iteT ?_⟩
  refine ⟨_, rfl, t, rfl, ⟨_, SqT.of ht⟩, fun Z l hl => ?_⟩
  refine for_tup (K := K) (a := t) (xs := ps.map V.ref) (fun i σ H' => σ.length = 1 ∧ Same H H' ∧ H' l = some (.lst ((ps.take i).map fun _ => V.bl true))) ⟨rfl, same_upd hl, by rw [upd_same]; rfl⟩ (fun i σ H' _ h => SqT.of (h.2.1 _ _ ht)) ?_ ?_
  ·rintro i x σ H' hx ⟨hσ, hs, hl'⟩
   match σ, hσ with
   | [o], _ =>
   obtain ⟨p, hp, rfl⟩ := getR hx
   obtain ⟨c, hc, he⟩ := hP.at hp
   have hi : i < ps.length := (List.getElem?_eq_some_iff.mp hp).1
   refine body_name ?_
   have hpl : placeOf H' (.ref p) = some c := by unfold placeOf; rw [tupOf_of (hs _ _ he)]
   refine ⟨_, rfl, _, rfl, (KnA.tup (hs _ _ he) (by simp) (fun x hx => by
    simp only [List.mem_cons, List.not_mem_nil, or_false] at hx
    rcases hx with rfl | rfl <;> exact KnA.int _)) 2, fun H2 s2 => ?_⟩
   rw [hpl]
   refine ⟨_, s2 _ _ hl', small1000 (by rw [List.length_map, List.length_take]; omega), rfl, fun b' u e' => ?_, ?_⟩
   ·rw [upd_ne (ne_of_none e' hl)]; exact s2 _ _ (hs _ _ e')
   ·rw [upd_same, List.take_succ, hp, List.map_append]; rfl
  ·rintro σ H' ⟨_, hs, hl'⟩
   rw [List.length_map, List.take_of_length_le (Nat.le_refl _)] at hl'
   refine ⟨l, ps.map fun _ => true, rfl, SqL.of (by rw [hl', List.map_map]; rfl), ?_⟩
   rw [all_true]
   exact q H' hs
theorem scAreWalks : FnScope ["thing"] ["thing"] (defScope sAreWalks) := ⟨rfl, rfl, rfl, by decide +kernel, rfl, by decide +kernel, by decide +kernel⟩
theorem ndWk : (["walk"] : List Str).Nodup := by decide +kernel
theorem ok_areWalks {f g1 : Addr} {fd d1 : FuncData} (F : Fun K "are_walks" "are_walks" sAreWalks f fd) (T : Txt mg) (T2 : Txt2 mg) (a1 : At P w K mg base CX0 3 "is_walk" g1 d1 ["thing"] spIsWalk) : FnOk P w K mg base CX0 4 f fd ["thing"] spAreWalks := by
 refine F.ok scAreWalks (fun vs H Q E h => ?_) (fun cdv A outer s H vs Q E hr h => ?_)
 ·obtain ⟨l, o, rfl, _⟩ := h; rfl
 ·obtain ⟨t, o, rfl, ⟨ws, ht, hW⟩, hz, hz2, q⟩ := h
  have hlen : ws.length = o.length := Paired.length hW
  refine ⟨_, pss_one (ps_ret (pe_and (pe_callB call_isinst rfl T.isinstance boot_isinstance (pa_v (pv 0) (pa_v (pe_bltn (v := .ty "list") rfl T2.list boot_list rfl) pa_nil))) (pe_one (pe_callB (call_all rfl) rfl T.all boot_all (pa_lc (pe_comp1 (defScope sAreWalks).names ["thing"] ["walk"] [] rfl (pi_list (pv 0)) rfl rfl rfl (by decide +kernel)
   (fun Z => pg_name (i := 0) ndWk rfl (Or.inl rfl)) (fun Z => pts_nil) (fun Z => pe_call a1.ok hr rfl a1.nm a1.kp a1.bd .nil pass0 (pa_v (pv 0) pa_nil))) pa_nil))))), ?_⟩
  refine ⟨_, rfl, _, "list", .type "list", true, rfl, .lst ht, kit_same _, _, rfl, iteT ?_⟩
  refine ⟨_, rfl, t, rfl, ⟨_, SqL.of ht⟩, fun Z l hl => ?_⟩
  refine for_list (K := K) (a := t) (xs := ws.map V.ref) (fun i σ H' => σ.length = 1 ∧ Same H H' ∧ H' l = some (.lst ((ws.take i).map fun _ => V.bl true))) ⟨rfl, same_upd hl, by rw [upd_same]; rfl⟩ (fun i σ H' _ h => SqL.of (h.2.1 _ _ ht)) ?_ ?_
  ·rintro i x σ H' hx ⟨hσ, hs, hl'⟩
   match σ, hσ with
   | [o'], _ =>
   obtain ⟨p, hp, rfl⟩ := getR hx
   obtain ⟨c, hc, he⟩ := WkP.at hW hp
   have hi : i < ws.length := (List.getElem?_eq_some_iff.mp hp).1
   refine body_name ?_
   refine ⟨_, rfl, _, c, rfl, he.same hs, hz2 c (List.mem_of_getElem? hc), fun H2 s2 => ?_⟩
   refine ⟨_, s2 _ _ hl', small1000 (by rw [List.length_map, List.length_take]; omega), rfl, fun b' u e' => ?_, ?_⟩
   ·rw [upd_ne (ne_of_none e' hl)]; exact s2 _ _ (hs _ _ e')
   ·rw [upd_same, List.take_succ, hp, List.map_append]; rfl
  ·rintro σ H' ⟨_, hs, hl'⟩
   rw [List.length_map, List.take_of_length_le (Nat.le_refl _)] at hl'
   refine ⟨l, ws.map fun _ => true, rfl, SqL.of (by rw [hl', List.map_map]; rfl), ?_⟩
   rw [all_true]
   exact q H' hs
theorem scHold : FnScope ["mead", "land", "thing"] ["mead", "land", "thing"] (defScope sHold) := ⟨rfl, rfl, rfl, by decide +kernel, rfl, by decide +kernel, by decide +kernel⟩
theorem ok_hold {f g1 g2 g3 : Addr} {fd d1 d2 d3 : FuncData} (F : Fun K "walks_hold" "walks_hold" sHold f fd) (a1 : At P w K mg base CX0 7 "check_land" g1 d1 ["mead", "land"] spChkLand) (a2 : At P w K mg base CX0 4 "are_walks" g2 d2 ["thing"] spAreWalks) (a3 : At P w K mg base CX0 3 "walks_along" g3 d3 ["land"] spWalks) : FnOk P w K mg base CX0 8 f fd ["mead", "land", "thing"] spHold := by
 refine F.ok scHold (fun vs H Q E h => ?_) (fun cdv A outer s H vs Q E hr h => ?_)
 ·obtain ⟨a, t, l, g, w', cs, ss, rfl, _⟩ := h; rfl
 ·obtain ⟨a, t, l, g, w', cs, ss, rfl, hA, G, hT, hL, so, hW, q⟩ := h
  have h10 := LandOf.len G hL
  have hnd := up_nd ((gridF_up pos g).sublist hL)
  have h40 := ss40 h10 so
  refine ⟨_, pss_cons (ps_expr (pe_call a1.ok hr rfl a1.nm a1.kp a1.bd .nil pass0 (pa_v (pv 0) (pa_v (pv 1) pa_nil)))) <|
   pss_one (ps_ret (pe_and (pe_call a2.ok (hr.mono (by decide)) rfl a2.nm a2.kp a2.bd .nil pass0 (pa_v (pv 2) pa_nil)) (pe_one (pe_cmpR (op_eqD 2 (hu2_of hr)) (pv 2) (pe_call a3.ok (hr.mono (by decide)) rfl a3.nm a3.kp a3.bd .nil pass0 (pa_v (pv 1) pa_nil)) (nomark _))))), ?_⟩
  refine ⟨_, rfl, _, rfl, a, t, g, w', cs, rfl, hA, G, hT, hL, fun H1 s1 => ?_⟩
  have w4 := walks40 hnd so h40
  refine ⟨_, rfl, l, _, rfl, hW.same s1, by omega, fun c hc => by have := walk_short hnd so h40 c hc; omega, fun H2 s2 => ⟨_, rfl, iteT ?_⟩⟩
  have s12 := s1.trans s2
  refine ⟨_, rfl, _, rfl, t, cs, rfl, hT.same s12, h10, hnd, fun l2 ws2 ss2 H3 hl2 s3 h2 so2 hW2 => ?_⟩
  obtain rfl := srtd_one so so2
  obtain ⟨ws, h1, hW1⟩ := hW.same (s12.trans s3)
  refine ⟨l, l2, _, _, _, rfl, rfl, .inr ⟨h1, h2⟩, e3Wk hW1 hW2, ?_⟩
  rw [all_true]
  exact q H3 (s12.trans s3)
end
end M50
namespace L2
open PySem PySem.Spec PyProof.Rows Grd Wlk
theorem cutR1 (ps : List Addr) : cutV (ps.map V.ref) none (some 1) = (ps.take 1).map V.ref := by
 have e1 : HT.sIx (ps.map V.ref).length (ps.map V.ref).length (some 1) = min 1 (ps.map V.ref).length := HT.sIx_nat _ _ 1
 have e2 : HT.sIx (ps.map V.ref).length 0 none = 0 := rfl
 unfold cutV
 rw [e1, e2, List.drop_zero, Nat.sub_zero, List.length_map, List.map_take, List.take_eq_take_iff]
 rw [List.length_map]; omega
theorem pl_drop {H : Hp} : ∀ {ps : List Addr} {cs : List (Int × Int)} (n : Nat), PlAt H ps cs → PlAt H (ps.drop n) (cs.drop n)
 | _, _, 0, h => h
 | _, _, _ + 1, .nil => .nil
 | _, _, n + 1, .cons _ t => pl_drop n t
theorem pl_take {H : Hp} : ∀ {ps : List Addr} {cs : List (Int × Int)} (n : Nat), PlAt H ps cs → PlAt H (ps.take n) (cs.take n)
 | _, _, 0, _ => by rw [List.take_zero, List.take_zero]; exact .nil
 | _, _, _ + 1, .nil => .nil
 | _, _, n + 1, .cons r t => .cons r (pl_take n t)
theorem pl_app {H : Hp} {ps qs : List Addr} {cs ds : List (Int × Int)} (h : PlAt H ps cs) (h' : PlAt H qs ds) : PlAt H (ps ++ qs) (cs ++ ds) := by
 induction h with
 | nil => exact h'
 | cons r t ih => exact .cons r ih
end L2
namespace M50
open PySem L2 PyProof.Rows Grd Wlk Cyc
noncomputable abbrev sStepsIn : Stmt := top 41
noncomputable abbrev sWithin2 : Stmt := top 42
noncomputable abbrev sCellsIn : Stmt := top 43
noncomputable abbrev sChkWalks : Stmt := top 44
noncomputable abbrev sLandIn : Stmt := top 45
noncomputable abbrev sArea : Stmt := top 46
noncomputable def spStepsIn : Sp := fun vs H Q _ => ∃ l o, vs = [.ref l] ∧ WkL H l o ∧ ((o.map zipN).flatten).length ≤ 40 ∧ o.length ≤ 40 ∧ ∀ l' qs H', H l' = none → Same H H' → H' l' = some (.lst ((qs : List Addr).map V.ref)) → StAt H' qs ((o.map zipN).flatten) → Q (.ref l') H'
theorem zipN_len (c : List Pl) : (zipN c).length = c.length := by
 unfold zipN
 rw [List.length_zip, List.length_append, List.length_drop, List.length_take]; omega
section
variable {P : Program} {w : World} {K : PySem.W.Frag} {mg : Str → Option Value} {base : Heap}
theorem scStepsIn : FnScope ["walks"] ["walks"] (defScope sStepsIn) := ⟨rfl, rfl, rfl, by decide +kernel, rfl, by decide +kernel, by decide +kernel⟩
theorem ndWS : (["walk", "step"] : List Str).Nodup := by decide +kernel
theorem ok_stepsIn {f : Addr} {fd : FuncData} (F : Fun K "steps_in" "steps_in" sStepsIn f fd) (T2 : Txt2 mg) : FnOk P w K mg base CX0 1 f fd ["walks"] spStepsIn := by
 refine F.ok scStepsIn (fun vs H Q E h => ?_) (fun cdv A outer s H vs Q E hr h => ?_)
 ·obtain ⟨l, o, rfl, _⟩ := h; rfl
 ·obtain ⟨lw, o, rfl, ⟨ws, hw, hW⟩, hz, ho, q⟩ := h
  have hlen : ws.length = o.length := Paired.length hW
  refine ⟨_, pss_one (ps_ret (pe_comp2 (defScope sStepsIn).names ["walks"] ["walk", "step"] [] rfl (pi_list (pv 0)) rfl rfl rfl (by decide +kernel)
   (fun Z => pg_name (i := 0) ndWS rfl (Or.inl rfl)) (fun Z => pts_nil)
   (fun Z => pi_zipN kT_ok rfl T2.zip (pa_v (pv 0) (pa_b (pe_op op_catU (pe_slice sl_tupU (pv 0) (po_some pe_int) po_none) (pe_slice sl_tupU (pv 0) po_none (po_some pe_int))) pa_nil))) (fun Z => pg_name (i := 1) ndWS rfl (Or.inl rfl))
   (fun Z => pts_nil) (fun Z => pv 1))), ?_⟩
  refine ⟨_, rfl, lw, rfl, ⟨_, SqL.of hw⟩, fun Z l hl => ?_⟩
  have part : ∀ i, (((o.take i).map zipN).flatten).length ≤ 40 := fun i => by
   have e : o = o.take i ++ o.drop i := (List.take_append_drop i o).symm
   rw [e, List.map_append, List.flatten_append, List.length_append] at hz
   omega
  refine for_list (K := K) (a := lw) (xs := ws.map V.ref) (fun i σ H' => σ.length = 2 ∧ Same H H' ∧ ∃ qs, H' l = some (.lst ((qs : List Addr).map V.ref)) ∧ StAt H' qs (((o.take i).map zipN).flatten)) ⟨rfl, same_upd hl, [], by rw [upd_same]; rfl, .nil⟩ (fun i σ H' _ h => SqL.of (h.2.1 _ _ hw)) ?_ ?_
  ·rintro i x σ H' hx ⟨hσ, hs, qs, hl', hS⟩
   match σ, hσ with
   | [x0, x1], _ =>
   obtain ⟨wa, hwa, rfl⟩ := getR hx
   obtain ⟨c, hc, ps, hps, hP⟩ := WkP.at hW hwa
   have hpl : ps.length = c.length := Paired.length hP
   have hql : qs.length ≤ 40 := by
    have h1 : qs.length = _ := Paired.length hS
    have := part i
    omega
   have hcl : c.length ≤ 40 := by
    have := part (i + 1)
    rw [List.take_succ, hc, List.map_append, List.flatten_append, List.length_append] at this
    have e : ((Option.toList (some c)).map zipN).flatten = zipN c := by simp
    rw [e, zipN_len] at this
    omega
   refine body_name ?_
   refine ⟨_, rfl, _, rfl, _, rfl, wa, _, rfl, hs _ _ hps, fun p1 H1 s1 h1 => ?_⟩
   rw [cutR] at h1
   refine ⟨_, rfl, _, rfl, wa, _, rfl, s1 _ _ (hs _ _ hps), fun p2 H2 s2 h2 => ?_⟩
   rw [cutR1] at h2
   refine ⟨p1, p2, _, _, rfl, rfl, s2 _ _ h1, h2, by rw [List.length_map, List.length_map, List.length_drop, List.length_take, sizeLine_eq]; omega, fun p3 H3 s3 h3 => ?_⟩
   rw [← List.map_append] at h3
   have s13 := (s1.trans s2).trans s3
   have hs3 := hs.trans s13
   refine ⟨wa, p3, _, _, rfl, SqT.of (hs3 _ _ hps), SqT.of h3, ?_⟩
   have hl3 := s13 _ _ hl'
   have hD : PlAt H3 (ps.drop 1 ++ ps.take 1) (c.drop 1 ++ c.take 1) := (pl_app (pl_drop 1 hP) (pl_take 1 hP)).same hs3
   have hl3n : p3 ≠ l := fun z => by rw [z, hl3] at h3; cases h3
   refine for_zip (xs := ps.map V.ref) (ys := (ps.drop 1 ++ ps.take 1).map V.ref) (by rw [List.length_map, List.length_map, List.length_append, List.length_drop, List.length_take]; omega)
    (fun j σ H' => σ.length = 2 ∧ Same H H' ∧ H' p3 = some (.tup ((ps.drop 1 ++ ps.take 1).map V.ref)) ∧ PlAt H' (ps.drop 1 ++ ps.take 1) (c.drop 1 ++ c.take 1) ∧ ∃ qs', H' l = some (.lst ((qs' : List Addr).map V.ref)) ∧ StAt H' qs' (((o.take i).map zipN).flatten ++ (zipN c).take j) ∧ qs'.length ≤ 40 + j)
    ⟨rfl, hs3, h3, hD, qs, hl3, by rw [List.take_zero, List.append_nil]; exact hS.same s13, by omega⟩ (fun j σ H' h => ⟨SqT.of (h.2.1 _ _ hps), SqT.of h.2.2.1⟩) ?_ ?_
   ·rintro j x y p σ H' hx hy ⟨hσ, hsj, h3j, hDj, qs', hlj, hSj, hnj⟩ hp
    match σ, hσ with
    | [y0, y1], _ =>
    obtain ⟨b1, hb1, rfl⟩ := getR hx
    obtain ⟨b2, hb2, rfl⟩ := getR hy
    obtain ⟨e1, he1, f1⟩ := hP.at hb1
    obtain ⟨e2, he2, f2⟩ := hDj.at hb2
    have hj : j < ps.length := (List.getElem?_eq_some_iff.mp hb1).1
    have s4 := same_upd (o := .tup [.ref b1, .ref b2]) hp
    have hst : StA (upd H' p (.tup [.ref b1, .ref b2])) p (e1, e2) := ⟨b1, b2, upd_same, s4 _ _ (hsj _ _ f1), s4 _ _ f2⟩
    have hl4 := s4 _ _ hlj
    have ez : (zipN c)[j]? = some (e1, e2) := List.getElem?_zip_eq_some.mpr ⟨he1, he2⟩
    refine body_name ?_
    refine ⟨_, rfl, _, hl4, small1000 (by rw [List.length_map]; omega), rfl, fun b' u e' => ?_, ?_, ?_, qs' ++ [p], ?_, ?_, ?_⟩
    ·rw [upd_ne (ne_of_none e' hl)]; exact s4 _ _ (hsj _ _ e')
    ·rw [upd_ne hl3n]; exact s4 _ _ h3j
    ·exact Paired.mapP hDj fun _ _ z => PlA.put hl4 (s4 _ _ z)
    ·rw [upd_same, List.map_append]; rfl
    ·rw [List.take_succ, ez, ← List.append_assoc]
     exact ((hSj.same s4).put hl4).snoc (hst.put hl4)
    ·rw [List.length_append]; show _ + 1 ≤ _; omega
   ·rintro σ H' ⟨hσ, hsj, _, _, qs', hlj, hSj, _⟩
    refine ⟨hσ, hsj, qs', hlj, ?_⟩
    have ez : (zipN c).take (ps.map V.ref).length = zipN c := List.take_of_length_le (by rw [zipN_len, List.length_map, hpl]; exact Nat.le_refl _)
    rw [ez] at hSj
    rw [List.take_succ, hc, List.map_append, List.flatten_append]
    have e : ((Option.toList (some c)).map zipN).flatten = zipN c := by simp
    rw [e]
    exact hSj
  ·rintro σ H' ⟨_, hs, qs, hl', hS⟩
   rw [List.length_map, hlen, List.take_of_length_le (Nat.le_refl _)] at hS
   exact q l qs H' hl hs hl' hS
end
end M50
namespace Wlk
open PySem PyProof.Rows Grd Cyc
theorem sub_filter : ∀ {L cs : List Pl}, L.Nodup → cs.Sublist L → (L.filter fun c => decide (c ∈ cs)) = cs
 | [], cs, _, h => by cases h; rfl
 | a :: L, cs, hn, h => by
  have hn' := List.nodup_cons.mp hn
  cases h with
  | cons _ h =>
   have ha : a ∉ cs := fun z => hn'.1 (h.subset z)
   rw [List.filter_cons_of_neg (by simpa using ha)]
   exact sub_filter hn'.2 h
  | cons_cons _ h =>
   rename_i cs'
   rw [List.filter_cons_of_pos (by simp)]
   congr 1
   have e : (L.filter fun c => decide (c ∈ a :: cs')) = L.filter fun c => decide (c ∈ cs') := List.filter_congr fun x hx => by
    have : x ≠ a := fun z => hn'.1 (z ▸ hx)
    rw [Bool.eq_iff_iff]; simp [this]
   rw [e]
   exact sub_filter hn'.2 h
theorem turn_small {land : List Pl} {s : WStep} (h0 : ∀ c ∈ land, 0 ≤ c.1 ∧ c.1 ≤ 10 ∧ 0 ≤ c.2 ∧ c.2 ≤ 10) (hs : s ∈ stepsU land) : -1000 ≤ turn s ∧ turn s ≤ 1000 := by
 obtain ⟨⟨a, b⟩, hc, h⟩ := mem_U.mp hs
 have hb := h0 _ hc
 dsimp only at h hb
 rcases h with ⟨_, rfl⟩ | ⟨_, rfl⟩ | ⟨_, rfl⟩ | ⟨_, rfl⟩
 ·have : turn ((a, b), (a, b + 1)) = a := by show a * (b + 1) - a * b = a; rw [Int.mul_add]; omega
  rw [this]; omega
 ·have : turn ((a, b + 1), (a + 1, b + 1)) = -(b + 1) := by show a * (b + 1) - (a + 1) * (b + 1) = _; rw [Int.add_mul]; omega
  rw [this]; omega
 ·have : turn ((a + 1, b + 1), (a + 1, b)) = -(a + 1) := by show (a + 1) * b - (a + 1) * (b + 1) = _; rw [Int.mul_add (a + 1)]; omega
  rw [this]; omega
 ·have : turn ((a + 1, b), (a, b)) = b := by show (a + 1) * b - a * b = b; rw [Int.add_mul]; omega
  rw [this]; omega
end Wlk
namespace M50
open PySem L2 PyProof.Rows Grd Wlk Cyc
theorem cell_small {g : Grid} {w : Nat} (G : Good g w) {c : Pl} (h : c ∈ gridF pos g) : 0 ≤ c.1 ∧ c.1 ≤ 10 ∧ 0 ≤ c.2 ∧ c.2 ≤ 10 := by
 obtain ⟨i, j, xs, x, rfl, h1, h2, _⟩ := mem_gridF.mp h
 have a1 := (List.getElem?_eq_some_iff.mp h1).1
 have a2 := (List.getElem?_eq_some_iff.mp h2).1
 have := G.h4
 have := G.len xs (List.mem_of_getElem? h1)
 have := G.w5
 refine ⟨?_, ?_, ?_, ?_⟩ <;> show _ ≤ _ <;> omega
noncomputable def spWithin2 : Sp := fun vs H Q _ => ∃ p l c ss, vs = [.ref p, .ref l] ∧ PlA H p c ∧ StL H l ss ∧ ss.length ≤ 40 ∧ ∀ H', Same H H' → Q (.bl (decide ((ss.filter (crosses c.1 c.2)).length % 2 = 1))) H'
noncomputable def spCellsIn : Sp := fun vs H Q _ => ∃ a l g w cs ss, vs = [.ref a, .ref l] ∧ GridAt H a g ∧ Good g w ∧ LandOf g cs ∧ Srtd ss (stepsU cs) ∧ WkL H l (walksP ss) ∧ ∀ t H', Same H H' → SqA H' t cs → Q (.ref t) H'
noncomputable def spChkWalks : Sp := fun vs H Q _ => ∃ a l g w cs ss, vs = [.ref a, .ref l] ∧ GridAt H a g ∧ Good g w ∧ LandOf g cs ∧ Srtd ss (stepsU cs) ∧ WkL H l (walksP ss) ∧ ∀ H', Same H H' → Q .non H'
noncomputable def spArea : Sp := fun vs H Q _ => ∃ a l g w cs ss, vs = [.ref a, .ref l] ∧ GridAt H a g ∧ Good g w ∧ LandOf g cs ∧ Srtd ss (stepsU cs) ∧ WkL H l (walksP ss) ∧ ∀ H', Same H H' → Q (.int (2 * cs.length : Nat)) H'
section
variable {P : Program} {w : World} {K : PySem.W.Frag} {mg : Str → Option Value} {base : Heap}
noncomputable abbrev nWi : List Str := ["cell", "steps", "row", "column", "crossed"]
theorem scWithin2 : FnScope nWi ["cell", "steps"] (defScope sWithin2) := ⟨rfl, rfl, rfl, by decide +kernel, rfl, by decide +kernel, by decide +kernel⟩
theorem ndWi : (["r", "c", "s", "d", "column", "row"] : List Str).Nodup := by decide +kernel
theorem ite2n {c : Prop} [Decidable c] {A B : Prop} (h1 : ¬ c → A) (h2 : c → B) : if (!decide c) = true then A else B := by
 by_cases h : c
 ·rw [if_neg (by rw [decide_eq_true h]; decide)]; exact h2 h
 ·rw [if_pos (by rw [decide_eq_false h]; rfl)]; exact h1 h
theorem min_if (i j : Int) : (if j < i then j else i) = min i j := by
 by_cases h : j < i
 ·rw [if_pos h]; omega
 ·rw [if_neg h]; omega
theorem boot_min : bootBuiltins "min" = some (.builtin "min") := by decide +kernel
theorem boot_abs : bootBuiltins "abs" = some (.builtin "abs") := by decide +kernel
theorem ok_within2 {f : Addr} {fd : FuncData} (F : Fun K "is_within" "is_within" sWithin2 f fd) (T : Txt mg) (T2 : Txt2 mg) : FnOk P w K mg base CX0 1 f fd ["cell", "steps"] spWithin2 := by
 refine F.ok scWithin2 (fun vs H Q E h => ?_) (fun cdv A outer s H vs Q E hr h => ?_)
 ·obtain ⟨p, l, c, ss, rfl, _⟩ := h; rfl
 ·obtain ⟨p, l, c, ss, rfl, hp, ⟨qs, hl, hS⟩, h40, q⟩ := h
  have nd := scWithin2.nd
  have hlen : qs.length = ss.length := Paired.length hS
  refine ⟨_, pss_cons (ps_asg (pv 0) (pg_tup rfl (pgs_cons (pg_name (i := 2) nd rfl (Or.inr rfl)) (pgs_cons (pg_name (i := 3) nd rfl (Or.inr rfl)) pgs_nil)))) <|
   pss_cons (ps_setC1 (i := 4) (defScope sWithin2).names nWi ["r", "c", "s", "d"] [("column", 3), ("row", 2)] rfl nd rfl rfl (pi_list (pv 1)) rfl rfl rfl (by decide +kernel)
    (fun Z => pg_tup rfl (pgs_cons (pg_tup rfl (pgs_cons (pg_name (i := 0) ndWi rfl (Or.inl rfl)) (pgs_cons (pg_name (i := 1) ndWi rfl (Or.inl rfl)) pgs_nil))) (pgs_cons (pg_tup rfl (pgs_cons (pg_name (i := 2) ndWi rfl (Or.inl rfl)) (pgs_cons (pg_name (i := 3) ndWi rfl (Or.inl rfl)) pgs_nil))) pgs_nil)))
    (fun Z => pts_one (PW.pt (pw_and (pt_cmpR op_ne (pv 0) (pv 2) (nomark _)) (pw_and (pt_cmpR op_eq (pe_callB (call_min2 rfl) rfl T2.min boot_min (pa_v (pv 0) (pa_v (pv 2) pa_nil))) (pv 5) (nomark _)) (pw_and1 (pt_cmpR op_le (pv 1) (pv 4) (nomark _))))))) (fun Z => pv 1)) <|
   pss_one (ps_ret (pe_cmpR op_eq (pe_op op_mod (pe_callB call_len_seq rfl T.len PySem.boot_len (pa_v (pv 4) pa_nil)) pe_int) pe_int (nomark _))), ?_⟩
  refine ⟨_, rfl, p, _, rfl, SqT.of hp, rfl, _, _, rfl, _, _, rfl, rfl, ?_⟩
  refine ⟨_, rfl, l, rfl, ⟨_, SqL.of hl⟩, fun Z l2 hl2 => ?_⟩
  refine for_list (K := K) (a := l) (xs := qs.map V.ref) (fun i σ H' => (∃ o0 o1 o2 o3, σ = [o0, o1, o2, o3, some (.int c.2), some (.int c.1)]) ∧ Same H H' ∧ H' l2 = some (.lst (((ss.take i).filter (crosses c.1 c.2)).map fun s => V.int s.1.2))) ⟨⟨_, _, _, _, rfl⟩, same_upd hl2, by rw [upd_same]; rfl⟩ (fun i σ H' _ h => SqL.of (h.2.1 _ _ hl)) ?_ ?_
  ·rintro i x σ H' hx ⟨⟨o0, o1, o2, o3, rfl⟩, hs, hl2'⟩
   obtain ⟨qa, hqa, rfl⟩ := getR hx
   obtain ⟨st, hst, a, b, e1, e2, e3⟩ := hS.at hqa
   have hi : i < qs.length := (List.getElem?_eq_some_iff.mp hqa).1
   obtain ⟨⟨r, cc⟩, ⟨ss', dd⟩⟩ := st
   have et : (ss.take (i + 1)).filter (crosses c.1 c.2) = (ss.take i).filter (crosses c.1 c.2) ++ (if crosses c.1 c.2 ((r, cc), (ss', dd)) = true then [((r, cc), (ss', dd))] else []) := by
    rw [List.take_succ, hst, List.filter_append]
    congr 1
    by_cases z : crosses c.1 c.2 ((r, cc), (ss', dd)) = true
    ·simp [z]
    ·simp [z]
   rw [et]
   have hfl := List.length_filter_le (crosses c.1 c.2) (ss.take i)
   rw [List.length_take] at hfl
   refine ⟨qa, _, rfl, SqT.of (hs _ _ e1), rfl, _, _, rfl, ⟨a, _, rfl, SqT.of (hs _ _ e2), rfl, _, _, rfl, _, _, rfl, rfl, ?_⟩⟩
   refine ⟨_, _, rfl, b, _, rfl, SqT.of (hs _ _ e3), rfl, _, _, rfl, _, _, rfl, rfl, rfl, ?_⟩
   have skip : crosses c.1 c.2 ((r, cc), (ss', dd)) = false → (∃ o0 o1 o2 o3, [some (V.int r), some (V.int cc), some (V.int ss'), some (V.int dd), some (V.int c.2), some (V.int c.1)] = [o0, o1, o2, o3, some (.int c.2), some (.int c.1)]) ∧ Same H H' ∧ H' l2 = some (.lst (((ss.take i).filter (crosses c.1 c.2) ++ (if crosses c.1 c.2 ((r, cc), (ss', dd)) = true then [((r, cc), (ss', dd))] else [])).map fun s => V.int s.1.2)) := fun z => by
    refine ⟨⟨_, _, _, _, rfl⟩, hs, ?_⟩
    rw [if_neg (by rw [z]; decide), List.append_nil]; exact hl2'
   refine ⟨_, rfl, _, rfl, rfl, _, rfl, ite2n (fun z1 => ?_) fun z1 => ?_⟩
   ·have y1 : r ≠ ss' := fun z => z1 (by rw [z])
    refine ⟨_, rfl, _, rfl, _, _, rfl, _, rfl, rfl, _, rfl, ite2d (fun z2 => ?_) fun z2 => ?_⟩
    ·have y2 : min r ss' = c.1 := (min_if r ss').symm.trans (V.int.inj z2)
     refine ⟨_, rfl, _, rfl, _, _, rfl, rfl, _, rfl, ite2d (fun z3 => ?_) fun z3 => ?_⟩
     ·have yc : crosses c.1 c.2 ((r, cc), (ss', dd)) = true := by
       unfold crosses
       rw [decide_eq_true (show ((r, cc), (ss', dd)).1.1 ≠ ((r, cc), (ss', dd)).2.1 from y1), decide_eq_true (show min ((r, cc), (ss', dd)).1.1 ((r, cc), (ss', dd)).2.1 = c.1 from y2), decide_eq_true (show ((r, cc), (ss', dd)).1.2 ≤ c.2 from z3)]; rfl
      refine ⟨_, rfl, _, hl2', small1000 (by rw [List.length_map]; omega), ⟨_, _, _, _, rfl⟩, fun b' u e' => ?_, ?_⟩
      ·rw [upd_ne (ne_of_none e' hl2)]; exact hs _ _ e'
      ·rw [upd_same, if_pos yc, List.map_append]; rfl
     ·exact skip (by unfold crosses; rw [decide_eq_false (show ¬ ((r, cc), (ss', dd)).1.2 ≤ c.2 from z3)]; simp)
    ·refine skip ?_
     have y2 : ¬ min r ss' = c.1 := fun z => z2 (congrArg V.int ((min_if r ss').trans z))
     unfold crosses; rw [decide_eq_false (show ¬ min ((r, cc), (ss', dd)).1.1 ((r, cc), (ss', dd)).2.1 = c.1 from y2)]; simp
   ·refine skip ?_
    have y1 : ¬ r ≠ ss' := fun z => z (V.int.inj z1)
    unfold crosses; rw [decide_eq_false (show ¬ ((r, cc), (ss', dd)).1.1 ≠ ((r, cc), (ss', dd)).2.1 from y1)]; simp
  ·rintro σ H' ⟨_, hs, hl2'⟩
   rw [List.length_map, hlen, List.take_of_length_le (Nat.le_refl _)] at hl2'
   refine ⟨_, rfl, l2, _, rfl, .inl (SqL.of hl2'), _, _, rfl, rfl, (by show (0 : Int) < 2; decide), rfl, ?_⟩
   have e : decide (V.int ((((ss.filter (crosses c.1 c.2)).map fun s => V.int s.1.2).length : Int) % 2) = V.int 1) = decide ((ss.filter (crosses c.1 c.2)).length % 2 = 1) := by
    rw [List.length_map, decide_eq_decide]
    constructor
    ·intro z; have := V.int.inj z; omega
    ·intro z; congr 1; omega
   rw [e]
   exact q H' hs
end
end M50
namespace M50
open PySem L2 PyProof.Rows Grd Wlk Cyc
theorem gone40 {g : Grid} {w : Nat} {cs : List Pl} {ss : List WStep} (G : Good g w) (hL : LandOf g cs) (so : Srtd ss (stepsU cs)) :
  (((walksP ss).map zipN).flatten).Perm (stepsU cs) ∧ (((walksP ss).map zipN).flatten).length ≤ 40 ∧ (walksP ss).length ≤ 40 ∧ (∀ c ∈ walksP ss, c.length ≤ 40) ∧ ss.length ≤ 40 := by
 have hnd := up_nd ((gridF_up pos g).sublist hL)
 have h40 := ss40 (LandOf.len G hL) so
 have hp := gone_perm hnd so
 rw [← zip_walks hnd so] at hp
 exact ⟨hp, by rw [hp.length_eq, ← so.1.length_eq]; exact h40, walks40 hnd so h40, walk_short hnd so h40, h40⟩
theorem in_is {g : Grid} {w : Nat} {cs : List Pl} {gs : List WStep} (G : Good g w) (hL : LandOf g cs) (hp : gs.Perm (stepsU cs)) {c : Pl} (hc : c ∈ gridF pos g) : decide ((gs.filter (crosses c.1 c.2)).length % 2 = 1) = decide (c ∈ cs) := by
 have hnd := up_nd ((gridF_up pos g).sublist hL)
 rw [within_odd hnd (fun d hd => (cell_small G (hL.subset hd)).2.2.1) hp c.1 c.2 (cell_small G hc).2.2.1]
 by_cases z : c ∈ cs
 ·rw [if_pos z]; simp [z]
 ·rw [if_neg z]; simp [z]
theorem stone_small {land : List Pl} {s : WStep} (h0 : ∀ c ∈ land, 0 ≤ c.1 ∧ c.1 ≤ 10 ∧ 0 ≤ c.2 ∧ c.2 ≤ 10) (hs : s ∈ stepsU land) : (0 ≤ s.1.1 ∧ s.1.1 ≤ 11) ∧ 0 ≤ s.2.1 ∧ s.2.1 ≤ 11 := by
 obtain ⟨⟨a, b⟩, hc, h⟩ := mem_U.mp hs
 have hb := h0 _ hc
 dsimp only at h hb
 rcases h with ⟨_, rfl⟩ | ⟨_, rfl⟩ | ⟨_, rfl⟩ | ⟨_, rfl⟩ <;> dsimp only <;> omega
section
variable {P : Program} {w : World} {K : PySem.W.Frag} {mg : Str → Option Value} {base : Heap}
noncomputable abbrev nCi : List Str := ["mead", "walks", "steps"]
theorem scCellsIn : FnScope nCi ["mead", "walks"] (defScope sCellsIn) := ⟨rfl, rfl, rfl, by decide +kernel, rfl, by decide +kernel, by decide +kernel⟩
theorem ndCi : (["cell", "steps"] : List Str).Nodup := by decide +kernel
theorem ok_cellsIn {f g1 g2 g3 : Addr} {fd d1 d2 d3 : FuncData} (F : Fun K "cells_within" "cells_within" sCellsIn f fd) (T : Txt mg) (a1 : At P w K mg base CX0 1 "steps_in" g1 d1 ["walks"] spStepsIn) (a2 : At P w K mg base CX0 6 "cells_of" g2 d2 ["mead"] (spGrid pos)) (a3 : At P w K mg base CX0 1 "is_within" g3 d3 ["cell", "steps"] spWithin2) : FnOk P w K mg base CX0 7 f fd ["mead", "walks"] spCellsIn := by
 refine F.ok scCellsIn (fun vs H Q E h => ?_) (fun cdv A outer s H vs Q E hr h => ?_)
 ·obtain ⟨a, l, g, w', cs, ss, rfl, _⟩ := h; rfl
 ·obtain ⟨a, lw, g, w', cs, ss, rfl, hA, G, hL, so, hW, q⟩ := h
  have nd := scCellsIn.nd
  obtain ⟨gp, g40, w40, ws40, s40⟩ := gone40 G hL so
  refine ⟨_, pss_cons (ps_set (i := 2) nd rfl (Or.inr rfl) (pe_call a1.ok (hr.mono (by decide)) rfl a1.nm a1.kp a1.bd .nil pass0 (pa_v (pv 1) pa_nil))) <|
   pss_one (ps_ret (pe_callTy call_tuple_of rfl T.tuple boot_tuple (pa_lc (pe_comp1 (defScope sCellsIn).names nCi ["cell"] [("steps", 2)] rfl (pi_list (pe_call a2.ok hr rfl a2.nm a2.kp a2.bd .nil pass0 (pa_v (pv 0) pa_nil))) rfl rfl rfl (by decide +kernel)
    (fun Z => pg_name (i := 0) ndCi rfl (Or.inl rfl)) (fun Z => pts_one (pt_val (pe_call a3.ok (hr.mono (by decide)) rfl a3.nm a3.kp a3.bd .nil pass0 (pa_v (pv 0) (pa_v (pv 1) pa_nil))))) (fun Z => pv 0)) pa_nil))), ?_⟩
  refine ⟨_, rfl, lw, _, rfl, hW, g40, w40, fun ls qs H1 hls s1 hls1 hS => ?_⟩
  refine ⟨_, rfl, a, g, w', rfl, hA.same s1, G, fun H2 l0 ps hl0 s2 hl0' hP => ?_⟩
  have hlen : ps.length = (gridF pos g).length := Paired.length hP
  have h10 : ps.length ≤ 10 := by rw [hlen, len_cells]; exact G.c10
  refine ⟨l0, rfl, ⟨_, SqL.of hl0'⟩, fun Z l hl => ?_⟩
  refine for_list (K := K) (a := l0) (xs := ps.map V.ref) (fun i σ H' => (∃ o, σ = [o, some (.ref ls)]) ∧ Same H2 H' ∧ ∃ ps', H' l = some (.lst ((ps' : List Addr).map V.ref)) ∧ PlAt H' ps' (((gridF pos g).take i).filter fun c => decide (c ∈ cs)))
   ⟨⟨_, rfl⟩, same_upd hl, [], by rw [upd_same]; rfl, .nil⟩ (fun i σ H' _ h => SqL.of (h.2.1 _ _ hl0')) ?_ ?_
  ·rintro i x σ H' hx ⟨⟨o, rfl⟩, hs, ps', hl', hP'⟩
   obtain ⟨pi, hpi, rfl⟩ := getR hx
   obtain ⟨c, hc, he⟩ := hP.at hpi
   have hi : i < ps.length := (List.getElem?_eq_some_iff.mp hpi).1
   have hpl : ps'.length ≤ i := by
    have h1 : ps'.length = _ := Paired.length hP'
    have h2 := List.length_filter_le (fun c => decide (c ∈ cs)) ((gridF pos g).take i)
    rw [List.length_take] at h2; omega
   show tBodyC _ _ _ [some (.ref pi), some (.ref ls)] H'
   refine ⟨_, rfl, _, rfl, pi, ls, c, _, rfl, hs _ _ he, ⟨qs, hs _ _ (s2 _ _ hls1), hS.same (s2.trans hs)⟩, g40, fun H3 s3 => ?_⟩
   rw [in_is G hL gp (List.mem_of_getElem? hc)]
   have et : ((gridF pos g).take (i + 1)).filter (fun c => decide (c ∈ cs)) = ((gridF pos g).take i).filter (fun c => decide (c ∈ cs)) ++ (if c ∈ cs then [c] else []) := by
    rw [List.take_succ, hc, List.filter_append]
    congr 1
    by_cases z : c ∈ cs
    ·simp [z]
    ·simp [z]
   rw [et]
   have hl3 := s3 _ _ hl'
   refine ⟨_, rfl, ite2d (fun z => ?_) fun z => ?_⟩
   ·rw [if_pos z]
    refine ⟨_, rfl, _, hl3, small1000 (by rw [List.length_map]; omega), ⟨_, rfl⟩, fun b' u e' => ?_, ps' ++ [pi], ?_, ?_⟩
    ·rw [upd_ne (ne_of_none e' hl)]; exact s3 _ _ (hs _ _ e')
    ·rw [upd_same, List.map_append]; rfl
    ·exact PlAt.snoc (Paired.mapP hP' fun _ _ z => PlA.put hl3 (s3 _ _ z)) (PlA.put hl3 (s3 _ _ (hs _ _ he)))
   ·rw [if_neg z, List.append_nil]
    exact ⟨⟨_, rfl⟩, hs.trans s3, ps', hl3, hP'.same s3⟩
  ·rintro σ H' ⟨_, hs, ps', hl', hP'⟩
   rw [List.length_map, hlen, List.take_of_length_le (Nat.le_refl _), sub_filter (up_nd (gridF_up pos g)) hL] at hP'
   refine ⟨l, _, rfl, .inl ⟨SqL.of hl', fun t ht => ?_⟩⟩
   have s5 := same_upd (o := .tup (ps'.map V.ref)) ht
   exact q t _ (((s1.trans s2).trans hs).trans s5) ⟨ps', upd_same, hP'.same s5⟩
theorem scChkWalks : FnScope ["mead", "walks"] ["mead", "walks"] (defScope sChkWalks) := ⟨rfl, rfl, rfl, by decide +kernel, rfl, by decide +kernel, by decide +kernel⟩
theorem ok_chkWalks {f g1 g2 g3 g4 : Addr} {fd d1 d2 d3 d4 : FuncData} (F : Fun K "check_walks" "check_walks" sChkWalks f fd) (a1 : At P w K mg base CX0 5 "check_mead" g1 d1 ["mead"] spCheck) (a2 : At P w K mg base CX0 4 "are_walks" g2 d2 ["thing"] spAreWalks) (a3 : At P w K mg base CX0 3 "walks_along" g3 d3 ["land"] spWalks) (a4 : At P w K mg base CX0 7 "cells_within" g4 d4 ["mead", "walks"] spCellsIn) : FnOk P w K mg base CX0 8 f fd ["mead", "walks"] spChkWalks := by
 refine F.ok scChkWalks (fun vs H Q E h => ?_) (fun cdv A outer s H vs Q E hr h => ?_)
 ·obtain ⟨a, l, g, w', cs, ss, rfl, _⟩ := h; rfl
 ·obtain ⟨a, l, g, w', cs, ss, rfl, hA, G, hL, so, hW, q⟩ := h
  have h10 := LandOf.len G hL
  have hnd := up_nd ((gridF_up pos g).sublist hL)
  obtain ⟨gp, g40, w40, ws40, s40⟩ := gone40 G hL so
  refine ⟨_, pss_cons (ps_expr (pe_call a1.ok (hr.mono (by decide)) rfl a1.nm a1.kp a1.bd .nil pass0 (pa_v (pv 0) pa_nil))) <|
   pss_one (ps_if (PW.pt (pw_or (pt_not (pt_val (pe_call a2.ok (hr.mono (by decide)) rfl a2.nm a2.kp a2.bd .nil pass0 (pa_v (pv 1) pa_nil)))) (pw_or1 (pt_cmpR (op_neD 2 (hu2_of hr)) (pv 1) (pe_call a3.ok (hr.mono (by decide)) rfl a3.nm a3.kp a3.bd .nil pass0 (pa_k (pe_call a4.ok hr rfl a4.nm a4.kp a4.bd .nil pass0 (pa_v (pv 0) (pa_v (pv 1) pa_nil))) pa_nil)) (nomark _))))) pss_never pss_nil), ?_⟩
  refine ⟨_, rfl, a, g, w', rfl, hA, G, fun H1 s1 => ?_⟩
  refine ⟨_, rfl, l, _, rfl, hW.same s1, by omega, fun c hc => by have := ws40 c hc; omega, fun H2 s2 => ⟨_, rfl, iteF ?_⟩⟩
  have s12 := s1.trans s2
  refine ⟨_, rfl, _, rfl, _, rfl, a, l, g, w', cs, ss, rfl, hA.same s12, G, hL, so, hW.same s12, fun t H3 s3 hT => ?_⟩
  refine ⟨t, cs, rfl, hT, h10, hnd, fun l2 ws2 ss2 H4 hl2 s4 h2 so2 hW2 => ?_⟩
  obtain rfl := srtd_one so so2
  have s14 := (s12.trans s3).trans s4
  obtain ⟨ws, h1, hW1⟩ := hW.same s14
  refine ⟨l, l2, _, _, _, rfl, rfl, .inr ⟨h1, h2⟩, e3Wk hW1 hW2, ?_⟩
  rw [all_true]
  exact ⟨_, rfl, iteF (q H4 s14)⟩
theorem scLandIn : FnScope ["mead", "walks"] ["mead", "walks"] (defScope sLandIn) := ⟨rfl, rfl, rfl, by decide +kernel, rfl, by decide +kernel, by decide +kernel⟩
theorem ok_landIn {f g1 g2 : Addr} {fd d1 d2 : FuncData} (F : Fun K "land_in" "land_in" sLandIn f fd) (a1 : At P w K mg base CX0 8 "check_walks" g1 d1 ["mead", "walks"] spChkWalks) (a2 : At P w K mg base CX0 7 "cells_within" g2 d2 ["mead", "walks"] spCellsIn) : FnOk P w K mg base CX0 9 f fd ["mead", "walks"] spCellsIn := by
 refine F.ok scLandIn (fun vs H Q E h => ?_) (fun cdv A outer s H vs Q E hr h => ?_)
 ·obtain ⟨a, l, g, w', cs, ss, rfl, _⟩ := h; rfl
 ·obtain ⟨a, l, g, w', cs, ss, rfl, hA, G, hL, so, hW, q⟩ := h
  refine ⟨_, pss_cons (ps_expr (pe_call a1.ok hr rfl a1.nm a1.kp a1.bd .nil pass0 (pa_v (pv 0) (pa_v (pv 1) pa_nil)))) <| pss_one (ps_ret (pe_call a2.ok (hr.mono (by decide)) rfl a2.nm a2.kp a2.bd .nil pass0 (pa_v (pv 0) (pa_v (pv 1) pa_nil)))), ?_⟩
  refine ⟨_, rfl, _, rfl, a, l, g, w', cs, ss, rfl, hA, G, hL, so, hW, fun H1 s1 => ?_⟩
  exact ⟨_, rfl, _, rfl, a, l, g, w', cs, ss, rfl, hA.same s1, G, hL, so, hW.same s1, fun t H2 s2 hT => q t H2 (s1.trans s2) hT⟩
theorem scArea : FnScope ["mead", "walks"] ["mead", "walks"] (defScope sArea) := ⟨rfl, rfl, rfl, by decide +kernel, rfl, by decide +kernel, by decide +kernel⟩
theorem ndRcsd : (["r", "c", "s", "d"] : List Str).Nodup := by decide +kernel
theorem ok_area {f g1 g2 : Addr} {fd d1 d2 : FuncData} (F : Fun K "twice_area" "twice_area" sArea f fd) (T2 : Txt2 mg) (a1 : At P w K mg base CX0 8 "check_walks" g1 d1 ["mead", "walks"] spChkWalks) (a2 : At P w K mg base CX0 1 "steps_in" g2 d2 ["walks"] spStepsIn) : FnOk P w K mg base CX0 9 f fd ["mead", "walks"] spArea := by
 refine F.ok scArea (fun vs H Q E h => ?_) (fun cdv A outer s H vs Q E hr h => ?_)
 ·obtain ⟨a, l, g, w', cs, ss, rfl, _⟩ := h; rfl
 ·obtain ⟨a, lw, g, w', cs, ss, rfl, hA, G, hL, so, hW, q⟩ := h
  have hnd := up_nd ((gridF_up pos g).sublist hL)
  obtain ⟨gp, g40, w40, ws40, s40⟩ := gone40 G hL so
  refine ⟨_, pss_cons (ps_expr (pe_call a1.ok hr rfl a1.nm a1.kp a1.bd .nil pass0 (pa_v (pv 0) (pa_v (pv 1) pa_nil)))) <|
   pss_one (ps_ret (pe_callB call_abs rfl T2.abs boot_abs (pa_k (pe_callB (call_sumI rfl) rfl T2.sum boot_sum (pa_lc (pe_comp1 (defScope sArea).names ["mead", "walks"] ["r", "c", "s", "d"] [] rfl (pi_list (pe_call a2.ok (hr.mono (by decide)) rfl a2.nm a2.kp a2.bd .nil pass0 (pa_v (pv 1) pa_nil))) rfl rfl rfl (by decide +kernel)
    (fun Z => pg_tup rfl (pgs_cons (pg_tup rfl (pgs_cons (pg_name (i := 0) ndRcsd rfl (Or.inl rfl)) (pgs_cons (pg_name (i := 1) ndRcsd rfl (Or.inl rfl)) pgs_nil))) (pgs_cons (pg_tup rfl (pgs_cons (pg_name (i := 2) ndRcsd rfl (Or.inl rfl)) (pgs_cons (pg_name (i := 3) ndRcsd rfl (Or.inl rfl)) pgs_nil))) pgs_nil)))
    (fun Z => pts_nil) (fun Z => pe_op op_sub (pe_op op_mul (pv 0) (pv 3)) (pe_op op_mul (pv 2) (pv 1)))) pa_nil)) pa_nil))), ?_⟩
  refine ⟨_, rfl, _, rfl, a, lw, g, w', cs, ss, rfl, hA, G, hL, so, hW, fun H1 s1 => ?_⟩
  refine ⟨_, rfl, lw, _, rfl, hW.same s1, g40, w40, fun ls qs H2 hls s2 hls2 hS => ?_⟩
  refine ⟨ls, rfl, ⟨_, SqL.of hls2⟩, fun Z l hl => ?_⟩
  have hlen : qs.length = _ := Paired.length hS
  refine for_list (K := K) (a := ls) (xs := qs.map V.ref) (fun i σ H' => σ.length = 4 ∧ Same H2 H' ∧ H' l = some (.lst (((((walksP ss).map zipN).flatten).take i).map fun s => V.int (turn s)))) ⟨rfl, same_upd hl, by rw [upd_same]; rfl⟩ (fun i σ H' _ h => SqL.of (h.2.1 _ _ hls2)) ?_ ?_
  ·rintro i x σ H' hx ⟨hσ, hs, hl'⟩
   match σ, hσ with
   | [o0, o1, o2, o3], _ =>
   obtain ⟨qa, hqa, rfl⟩ := getR hx
   obtain ⟨st, hst, b1, b2, e1, e2, e3⟩ := hS.at hqa
   have hi : i < qs.length := (List.getElem?_eq_some_iff.mp hqa).1
   obtain ⟨⟨r, cc⟩, ⟨ss', dd⟩⟩ := st
   refine ⟨qa, _, rfl, SqT.of (hs _ _ e1), rfl, _, _, rfl, ⟨b1, _, rfl, SqT.of (hs _ _ e2), rfl, _, _, rfl, _, _, rfl, rfl, ?_⟩⟩
   refine ⟨_, _, rfl, b2, _, rfl, SqT.of (hs _ _ e3), rfl, _, _, rfl, _, _, rfl, rfl, rfl, ?_⟩
   have sm := stone_small (fun c hc => cell_small G (hL.subset hc)) (gp.subset (List.mem_of_getElem? hst))
   dsimp only at sm
   refine ⟨_, rfl, _, rfl, _, _, rfl, rfl, .inl (by dsimp only; omega), _, rfl, _, rfl, _, _, rfl, rfl, .inl (by dsimp only; omega), _, _, rfl, rfl, ?_⟩
   refine ⟨_, hl', small1000 (by rw [List.length_map, List.length_take]; omega), rfl, fun b' u e' => ?_, ?_⟩
   ·rw [upd_ne (ne_of_none e' hl)]; exact hs _ _ e'
   ·rw [upd_same, List.take_succ, hst, List.map_append]; rfl
  ·rintro σ H' ⟨_, hs, hl'⟩
   rw [List.length_map, hlen, List.take_of_length_le (Nat.le_refl _)] at hl'
   refine ⟨l, (((walksP ss).map zipN).flatten).map turn, rfl, SqL.of (by rw [hl', List.map_map]; rfl), by rw [List.length_map]; omega, fun n hn => ?_, ?_⟩
   ·obtain ⟨st, hst, rfl⟩ := List.mem_map.mp hn
    exact turn_small (fun c hc => cell_small G (hL.subset hc)) (gp.subset hst)
   ·refine ⟨_, rfl, ?_⟩
    rw [area hnd gp]
    have e : (if (-2 * (cs.length : Int)) < 0 then -(-2 * (cs.length : Int)) else -2 * (cs.length : Int)) = ((2 * cs.length : Nat) : Int) := by
     by_cases z : (-2 * (cs.length : Int)) < 0
     ·rw [if_pos z]; omega
     ·rw [if_neg z]; omega
    rw [e]
    exact q H' ((s1.trans s2).trans hs)
end
end M50
namespace Wlk
open PySem PyProof.Rows Srt Cyc Grd
noncomputable def nb (land R : List Pl) (x : Pl) : List Pl := (beside x).filter fun y => decide (y ∈ land) && !decide (y ∈ R)
structure Rch (land : List Pl) (s : Pl) (R : List Pl) (k : Nat) : Prop where
 sub : ∀ x ∈ R, x ∈ land
 nd : R.Nodup
 st : s ∈ R
 done : ∀ i x, i < k → R[i]? = some x → ∀ y ∈ beside x, y ∈ land → y ∈ R
 min : ∀ C, Closed land C → ∀ x ∈ R, x ∈ C → s ∈ C
 le : k ≤ R.length
theorem beside_nd (x : Pl) : (beside x).Nodup := by
 obtain ⟨a, b⟩ := x
 unfold beside
 simp only [List.nodup_cons, List.mem_cons, List.not_mem_nil, or_false, Prod.mk.injEq, not_or, not_false_eq_true, List.nodup_nil, and_true]
 omega
theorem mem_nb {land R : List Pl} {x y : Pl} : y ∈ nb land R x ↔ y ∈ beside x ∧ y ∈ land ∧ y ∉ R := by
 unfold nb
 rw [List.mem_filter]
 simp
theorem Rch.start {land : List Pl} {s : Pl} (h : s ∈ land) : Rch land s [s] 0 :=
 ⟨fun x hx => by rw [List.mem_singleton.mp hx]; exact h, by simp, List.mem_cons_self, fun i _ hi => absurd hi (Nat.not_lt_zero i), fun C _ x hx hC => by rw [List.mem_singleton.mp hx] at hC; exact hC, Nat.zero_le _⟩
theorem Rch.step {land R : List Pl} {s x : Pl} {k : Nat} (h : Rch land s R k) (hx : R[k]? = some x) : Rch land s (R ++ nb land R x) (k + 1) := by
 have hk : k < R.length := (List.getElem?_eq_some_iff.mp hx).1
 refine ⟨fun y hy => ?_, ?_, List.mem_append_left _ h.st, fun i y hi hy z hz hzl => ?_, fun C hC y hy hyC => ?_, by rw [List.length_append]; omega⟩
 ·rcases List.mem_append.mp hy with e | e
  ·exact h.sub y e
  ·exact (mem_nb.mp e).2.1
 ·rw [List.nodup_append]
  refine ⟨h.nd, (beside_nd x).sublist List.filter_sublist, fun a ha b hb e => ?_⟩
  subst e
  exact (mem_nb.mp hb).2.2 ha
 ·rw [List.getElem?_append_left (by omega)] at hy
  by_cases e : z ∈ R
  ·exact List.mem_append_left _ e
  ·rcases Nat.lt_or_ge i k with u | u
   ·exact absurd (h.done i y u hy z hz hzl) e
   ·have : i = k := by omega
    rw [this, hx] at hy
    cases hy
    exact List.mem_append_right _ (mem_nb.mpr ⟨hz, hzl, e⟩)
 ·rcases List.mem_append.mp hy with e | e
  ·exact h.min C hC y e hyC
  ·have hxR := List.mem_of_getElem? hx
   exact h.min C hC x hxR (hC y hyC x (beside_sym (mem_nb.mp e).1) (h.sub x hxR))
theorem Rch.len {land R : List Pl} {s : Pl} {k : Nat} (h : Rch land s R k) : R.length ≤ land.length := sub_len h.nd h.sub
theorem Rch.fin {land R P : List Pl} {s : Pl} {k : Nat} (h : Rch land s R k) (hk : R.length ≤ k) (hp : P.Perm R) (hs : P.Pairwise fun a b => HT.lexLt [b.1, b.2] [a.1, a.2] = false) : Piece land s P := by
 refine ⟨fun x hx => h.sub x (hp.mem_iff.mp hx), hp.mem_iff.mpr h.st, fun x hx y hy hl => ?_, fun C hC ⟨x, hx, hxC⟩ => h.min C hC x (hp.mem_iff.mp hx) hxC, ?_⟩
 ·obtain ⟨i, hi, e⟩ := List.mem_iff_getElem.mp (hp.mem_iff.mp hx)
  exact hp.mem_iff.mpr (h.done i x (by omega) (List.getElem?_eq_some_iff.mpr ⟨hi, e⟩) y hy hl)
 ·have hnd : P.Nodup := hp.nodup_iff.mpr h.nd
  refine (hs.and (List.nodup_iff_pairwise_ne.mp hnd)).imp fun {a b} z => ?_
  unfold ltP
  cases e : HT.lexLt [a.1, a.2] [b.1, b.2] with
  | true => rfl
  | false =>
   have := lex_tot e z.1
   refine absurd ?_ z.2
   obtain ⟨a1, a2⟩ := a
   obtain ⟨b1, b2⟩ := b
   simp only [List.cons.injEq, and_true] at this
   rw [this.1, this.2]
end Wlk
namespace M50
open PySem L2 PyProof.Rows Grd Wlk Cyc Srt
noncomputable def unP (l : List Int) : Pl := (l.getD 0 0, l.getD 1 0)
theorem srt_pl {X : Cx} {H : Hp} {l : Addr} {qs : List Addr} {R : List Pl} {Q : VK} (hl : H l = some (.lst (qs.map V.ref))) (hP : PlAt H qs R) (h40 : R.length ≤ 40) (q : ∀ l9 qs' R' H', H l9 = none → Same H H' → H' l9 = some (.lst ((qs' : List Addr).map V.ref)) → PlAt H' qs' R' → R'.Perm R → R'.Pairwise (fun a b => HT.lexLt [b.1, b.2] [a.1, a.2] = false) → Q (.ref l9) H') :
  ∃ (p : Addr) (zs : List (Addr × List Int)), [V.ref l] = [.ref p] ∧ SqL X.K H p (zs.map fun z => V.ref z.1) ∧ (∀ z ∈ zs, H z.1 = some (.tup (z.2.map V.int)) ∧ z.2 ≠ []) ∧ zs.length < 64 ∧ ∀ l zs', H l = none → Sorted2 zs zs' → Q (.ref l) (upd H l (.lst (zs'.map fun z => V.ref z.1))) := by
 have hzz : ∀ {qs : List Addr} {R : List Pl}, PlAt H qs R → ∃ zs : List (Addr × List Int), (zs.map fun z => z.1) = qs ∧ (zs.map fun z => z.2) = R.map (fun s => [s.1, s.2]) ∧ ∀ z ∈ zs, H z.1 = some (.tup (z.2.map V.int)) ∧ z.2 ≠ [] := fun {qs R} h => by
  induction h with
  | nil => exact ⟨[], rfl, rfl, fun z hz => by cases hz⟩
  | cons r t ih =>
   rename_i q s _ _
   obtain ⟨zs, i1, i2, i3⟩ := ih
   refine ⟨(q, [s.1, s.2]) :: zs, by rw [List.map_cons, i1], by rw [List.map_cons, i2]; rfl, fun z hz => ?_⟩
   rcases List.mem_cons.mp hz with e | e
   ·rw [e]; exact ⟨r, by simp⟩
   ·exact i3 z e
 obtain ⟨zs, i1, i2, i3⟩ := hzz hP
 have un : ∀ z ∈ zs, ∃ s : Pl, z.2 = [s.1, s.2] ∧ unP z.2 = s := fun z hz => by
  have e2 : z.2 ∈ zs.map fun z => z.2 := List.mem_map.mpr ⟨z, hz, rfl⟩
  rw [i2] at e2
  obtain ⟨s, _, es⟩ := List.mem_map.mp e2
  exact ⟨s, es.symm, by rw [← es]; rfl⟩
 have hzl : zs.length ≤ 40 := by
  have h1 := congrArg List.length i2
  rw [List.length_map, List.length_map] at h1
  omega
 refine ⟨l, zs, rfl, SqL.of (by rw [hl, ← i1, List.map_map]; rfl), i3, by omega, fun l9 zs' hl9 so => ?_⟩
 have s9 := same_upd (o := .lst (zs'.map fun z => V.ref z.1)) hl9
 refine q l9 (zs'.map fun z => z.1) (zs'.map fun z => unP z.2) _ hl9 s9 (by rw [upd_same, List.map_map]; rfl) ?_ ?_ ?_
 ·have key : ∀ ys : List (Addr × List Int), (∀ z ∈ ys, z ∈ zs) → PlAt (upd H l9 (.lst (zs'.map fun z => V.ref z.1))) (ys.map fun z => z.1) (ys.map fun z => unP z.2) := fun ys => by
   induction ys with
   | nil => intro _; exact .nil
   | cons z ys ih =>
    intro hm
    refine .cons ?_ (ih fun y hy => hm y (List.mem_cons_of_mem _ hy))
    have hz := hm z List.mem_cons_self
    obtain ⟨s, e1, e2⟩ := un z hz
    show PlA _ z.1 (unP z.2)
    rw [e2]
    have := (i3 z hz).1
    rw [e1] at this
    exact s9 _ _ this
  exact key zs' fun z hz => so.1.mem_iff.mp hz
 ·have h1 := (so.1.map fun z => z.2).map unP
  rw [i2, List.map_map, List.map_map] at h1
  refine h1.trans (List.Perm.of_eq ?_)
  have : (unP ∘ fun s : Pl => [s.1, s.2]) = id := rfl
  rw [this, List.map_id]
 ·rw [List.pairwise_map]
  refine so.2.imp_of_mem fun {a b} ha hb hab => ?_
  obtain ⟨s, e1, e2⟩ := un a (so.1.mem_iff.mp ha)
  obtain ⟨s', e1', e2'⟩ := un b (so.1.mem_iff.mp hb)
  rw [e1, e1'] at hab
  rw [e2, e2']
  exact hab
noncomputable abbrev sPieceR : Stmt := top 28
noncomputable abbrev sPieces : Stmt := top 29
noncomputable def spPieceR : Sp := fun vs H Q _ => ∃ t p cs c, vs = [.ref t, .ref p] ∧ SqA H t cs ∧ cs.length ≤ 10 ∧ PlA H p c ∧ c ∈ cs ∧ ∀ t' P H', Same H H' → SqA H' t' P → Piece cs c P → Q (.ref t') H'
noncomputable def spPieces : Sp := fun vs H Q _ => ∃ a t g w cs, vs = [.ref a, .ref t] ∧ GridAt H a g ∧ Good g w ∧ SqA H t cs ∧ LandOf g cs ∧ ∀ l ps H', H l = none → Same H H' → WkL H' l ps → ps.length ≤ 10 → Pcs cs cs ps → Q (.ref l) H'
section
variable {P : Program} {w : World} {K : PySem.W.Frag} {mg : Str → Option Value} {base : Heap}
noncomputable abbrev nPr : List Str := ["land", "start", "reached", "at", "beside"]
theorem scPieceR : FnScope nPr ["land", "start"] (defScope sPieceR) := ⟨rfl, rfl, rfl, by decide +kernel, rfl, by decide +kernel, by decide +kernel⟩
theorem ndPr : (["place", "land", "reached"] : List Str).Nodup := by decide +kernel
theorem ok_pieceR {f g1 : Addr} {fd d1 : FuncData} (F : Fun K "piece_round" "piece_round" sPieceR f fd) (T : Txt mg) (T2 : Txt2 mg) (a1 : At P w K mg base CX0 1 "places_beside" g1 d1 ["place"] spBeside) : FnOk P w K mg base CX0 2 f fd ["land", "start"] spPieceR := by
  refine F.ok scPieceR (fun vs H Q E h => ?_) (fun cdv A outer s H vs Q E hr h => ?_)
  · obtain ⟨t, p, cs, c, rfl, _⟩ := h; rfl
  · obtain ⟨t, pa, cs, c, rfl, hT, h10, hp, hc, q⟩ := h
    have nd := scPieceR.nd
    refine ⟨_, pss_cons (ps_set (i := 2) nd rfl (Or.inr rfl) (pe_lst (pa_v (pv 1) pa_nil))) <|
      pss_cons (ps_set (i := 3) nd rfl (Or.inl rfl) pe_int) <|
      pss_cons (ps_while PassesOwn.never (pt_cmpR op_lt (pv 3) (pe_callB call_len_seq rfl T.len PySem.boot_len (pa_v (pv 2) pa_nil)) (nomark _))
        (pss_cons (ps_set (i := 4) nd rfl (Or.inl rfl) (pe_call a1.ok hr rfl a1.nm a1.kp a1.bd .nil pass0 (pa_s (pe_ix ix_list (pv 2) (pv 3) (fun _ _ => rfl)) pa_nil))) <|
         pss_cons (ps_expr (pe_bm PySem.F.plainAttrs_list PySem.F.slot_list_extend PySem.F.type_list_extend mt_extend (pv 2) (pa_lc (pe_comp1 (defScope sPieceR).names nPr ["place"] [("land", 0), ("reached", 2)] rfl (pi_list (pv 4)) rfl rfl rfl (by decide +kernel)
            (fun Z => pg_name (i := 0) ndPr rfl (Or.inl rfl)) (fun Z => pts_one (PW.pt (pw_and (pt_cmpR (op_inD 1 (hu1_of hr)) (pv 0) (pv 1) rfl) (pw_and1 (pt_cmpR (op_notInD 1 (hu1_of hr)) (pv 0) (pv 2) rfl))))) (fun Z => pv 0)) pa_nil))) <|
         pss_one (ps_aug (i := 3) nd rfl (Or.inl rfl) pe_int ip_add))) <|
      pss_one (ps_ret (pe_callTy call_tuple_of rfl T.tuple boot_tuple (pa_k (pe_callB call_sortedT rfl T2.sorted boot_sorted (pa_v (pv 2) pa_nil)) pa_nil))), ?_⟩
    obtain ⟨ts, ht, hP⟩ := hT
    refine ⟨_, rfl, by show 1 ≤ sizeLine; decide, fun lr hlr => ?_⟩
    have s0 := same_upd (o := .lst [.ref pa]) hlr
    refine ⟨fun m σ H' => ∃ k o qs R, m + k = 10 ∧ σ = [some (.ref t), some (.ref pa), some (.ref lr), some (.int (k : Nat)), o] ∧ Same H H' ∧ H' lr = some (.lst ((qs : List Addr).map V.ref)) ∧ PlAt H' qs R ∧ Rch cs c R k,
      ⟨10, 0, _, [pa], [c], rfl, rfl, s0, upd_same, .cons (s0 _ _ hp) .nil, Rch.start hc⟩, ?_⟩
    rintro m σ H' ⟨k, o, qs, R, hm, rfl, hs, hlr', hR, rc⟩
    have hqR : qs.length = R.length := Paired.length hR
    have hRl := rc.len
    refine ⟨_, rfl, _, rfl, lr, _, rfl, .inl (SqL.of hlr'), _, _, rfl, rfl, _, rfl, ite2d (fun z => ?_) fun z => ?_⟩
    · rw [List.length_map, hqR] at z
      have hk : k < R.length := by omega
      have hkq : k < qs.length := by omega
      have hqk : qs[k]? = some (qs[k]) := List.getElem?_eq_getElem hkq
      obtain ⟨x, hx, he⟩ := hR.at hqk
      refine ⟨fun σ' H2 => ∃ o qs' , σ' = [some (.ref t), some (.ref pa), some (.ref lr), some (.int ((k + 1 : Nat) : Int)), o] ∧ Same H H2 ∧ H2 lr = some (.lst ((qs' : List Addr).map V.ref)) ∧ PlAt H2 qs' (R ++ nb cs R x),
        fun σ' H2 ⟨o, qs', h1, h2, h3, h4⟩ => ⟨m - 1, by omega, k + 1, o, qs', _, by omega, h1, h2, h3, h4, rc.step hx⟩, ?_⟩
      refine ⟨_, rfl, _, rfl, lr, _, _, _, rfl, rfl, SqL.of hlr', atI_nat (v := V.ref qs[k]) (by rw [List.getElem?_map, hqk]; rfl), ?_⟩
      refine ⟨qs[k], x, rfl, he, fun lb bs H2 hlb s2 hlb2 hB => ?_⟩
      have hR2 := hR.same s2
      have hlr2 := s2 _ _ hlr'
      have hP2 := (hP.same hs).same s2
      have ht2 := s2 _ _ (hs _ _ ht)
      have hb4 : bs.length = 4 := Paired.length hB
      refine ⟨_, rfl, .inl ⟨rfl, _, SqL.of hlr2⟩, ?_⟩
      refine ⟨_, rfl, lb, rfl, ⟨_, SqL.of hlb2⟩, fun Z ln hln => ?_⟩
      refine for_list (K := K) (a := lb) (xs := bs.map V.ref) (fun j σ H3 => (∃ o, σ = [o, some (.ref t), some (.ref lr)]) ∧ Same H2 H3 ∧ ∃ ns, H3 ln = some (.lst ((ns : List Addr).map V.ref)) ∧ PlAt H3 ns (((beside x).take j).filter fun y => decide (y ∈ cs) && !decide (y ∈ R)))
        ⟨⟨_, rfl⟩, same_upd hln, [], by rw [upd_same]; rfl, .nil⟩ (fun j σ H3 _ h => SqL.of (h.2.1 _ _ hlb2)) ?_ ?_
      · rintro j y σ H3 hy ⟨⟨o', rfl⟩, hs3, ns, hn, hN⟩
        obtain ⟨b, hbj, rfl⟩ := getR hy
        obtain ⟨d, hd, hbd⟩ := hB.at hbj
        have hj : j < 4 := (List.getElem?_eq_some_iff.mp hd).1
        have hbd3 := hs3 _ _ hbd
        have hnl : ns.length ≤ 4 := by
          have h1 : ns.length = _ := Paired.length hN
          have h2 := List.length_filter_le (fun y => decide (y ∈ cs) && !decide (y ∈ R)) ((beside x).take j)
          rw [List.length_take] at h2; omega
        have et : ((beside x).take (j + 1)).filter (fun y => decide (y ∈ cs) && !decide (y ∈ R)) = ((beside x).take j).filter (fun y => decide (y ∈ cs) && !decide (y ∈ R)) ++ (if (decide (d ∈ cs) && !decide (d ∈ R)) = true then [d] else []) := by
          rw [List.take_succ, hd, List.filter_append]
          congr 1
          cases e : (decide (d ∈ cs) && !decide (d ∈ R))
          · simp [e]
          · simp [e]
        rw [et]
        show tBodyC _ _ _ [some (.ref b), some (.ref t), some (.ref lr)] H3
        refine ⟨_, rfl, _, rfl, t, _, _, rfl, .inl (hs3 _ _ ht2), e3Pl hbd3 (hP2.same hs3), _, rfl, ?_⟩
        rw [any_eq]
        refine iteB (fun z1' => ?_) fun z1' => ?_
        · have z1 : d ∈ cs := by simpa using z1'
          refine ⟨_, rfl, _, rfl, lr, _, _, rfl, .inr (hs3 _ _ hlr2), e3Pl hbd3 (hR2.same hs3), _, rfl, ?_⟩
          rw [any_eq]
          refine iteB (fun z2' => ?_) fun z2' => ?_
          · have z2 : d ∉ R := by simpa using z2'
            rw [if_pos (by rw [decide_eq_true z1, decide_eq_false z2]; rfl)]
            refine ⟨_, rfl, _, hn, small1000 (by rw [List.length_map]; omega), ⟨_, rfl⟩, fun b' u e' => ?_, ns ++ [b], ?_, ?_⟩
            · rw [upd_ne (ne_of_none e' hln)]; exact hs3 _ _ e'
            · rw [upd_same, List.map_append]; rfl
            · exact PlAt.snoc (Paired.mapP hN fun _ _ z => PlA.put hn z) (PlA.put hn hbd3)
          · have z2 : d ∈ R := by simpa using z2'
            rw [if_neg (by rw [decide_eq_true z2]; simp), List.append_nil]
            exact ⟨⟨_, rfl⟩, hs3, ns, hn, hN⟩
        · have z1 : d ∉ cs := by simpa using z1'
          rw [if_neg (by rw [decide_eq_false z1]; simp), List.append_nil]
          exact ⟨⟨_, rfl⟩, hs3, ns, hn, hN⟩
      · rintro σ H3 ⟨⟨o', rfl⟩, hs3, ns, hn, hN⟩
        rw [List.length_map, hb4] at hN
        have hN' : PlAt H3 ns (nb cs R x) := hN
        have hnl : ns.length ≤ 4 := by
          have h1 : ns.length = (nb cs R x).length := Paired.length hN'
          have h2 : (nb cs R x).length ≤ (beside x).length := List.length_filter_le _ _
          have h3 : (beside x).length = 4 := rfl
          omega
        have hlr3 := hs3 _ _ hlr2
        refine ⟨lr, ln, _, _, rfl, rfl, hlr3, hn, by rw [List.length_map, List.length_map, sizeLine_eq]; omega, ?_⟩
        refine ⟨_, rfl, _, _, rfl, rfl, ⟨_, qs ++ ns, rfl, fun b' u e' => ?_, by rw [upd_same, List.map_append], ?_⟩⟩
        · rw [upd_ne (ne_of_none e' hlr)]; exact hs3 _ _ (s2 _ _ (hs _ _ e'))
        · exact pl_app (Paired.mapP (hR2.same hs3) fun _ _ z => PlA.put hlr3 z) (Paired.mapP hN' fun _ _ z => PlA.put hlr3 z)
    · rw [List.length_map, hqR] at z
      refine ⟨_, rfl, ?_⟩
      refine srt_pl (X := (cxOf CX0 P w K mg base nPr (Str.ofString "piece_round") (defScope sPieceR) f cdv A outer s H E).nox) (Q := fun v H1 => ∃ p ys, [v] = [V.ref p] ∧ ((SqL K H1 p ys ∧ ∀ l, H1 l = none → Q (.ref l) (upd H1 l (.tup ys))) ∨ (SqT K H1 p ys ∧ Q (.ref p) H1))) hlr' hR (by omega) fun l9 qs' R' H9 h9 s9 hl9 hR9 pm up => ?_
      refine ⟨l9, _, rfl, .inl ⟨SqL.of hl9, fun t' ht' => ?_⟩⟩
      have s10 := same_upd (o := .tup (qs'.map V.ref)) ht'
      exact q t' R' _ ((hs.trans s9).trans s10) ⟨qs', upd_same, hR9.same s10⟩ (rc.fin (by omega) pm up)
end
end M50
namespace M50
open PySem L2 PyProof.Rows Grd Wlk Cyc Srt
theorem any_eqP (l : List (Int × Int)) (x : Int × Int) : (l.map fun c => decide (c = x)).any id = decide (x ∈ l) := by
 rw [Bool.eq_iff_iff, List.any_map]
 simp
section
variable {P : Program} {w : World} {K : PySem.W.Frag} {mg : Str → Option Value} {base : Heap}
noncomputable abbrev nPs : List Str := ["mead", "land", "pieces", "cell"]
theorem scPieces : FnScope nPs ["mead", "land"] (defScope sPieces) := ⟨rfl, rfl, rfl, by decide +kernel, rfl, by decide +kernel, by decide +kernel⟩
theorem ndPs : (["piece", "cell"] : List Str).Nodup := by decide +kernel
theorem boot_any : bootBuiltins "any" = some (.builtin "any") := by decide +kernel
theorem ok_pieces {f g1 g2 : Addr} {fd d1 d2 : FuncData} (F : Fun K "pieces_of" "pieces_of" sPieces f fd) (T2 : Txt2 mg) (a1 : At P w K mg base CX0 7 "check_land" g1 d1 ["mead", "land"] spChkLand) (a2 : At P w K mg base CX0 2 "piece_round" g2 d2 ["land", "start"] spPieceR) : FnOk P w K mg base CX0 8 f fd ["mead", "land"] spPieces := by
 refine F.ok scPieces (fun vs H Q E h => ?_) (fun cdv A outer s H vs Q E hr h => ?_)
 ·obtain ⟨a, t, g, w', cs, rfl, _⟩ := h; rfl
 ·obtain ⟨a, t, g, w', cs, rfl, hA, G, hT, hL, q⟩ := h
  have nd := scPieces.nd
  have h10 := LandOf.len G hL
  refine ⟨_, pss_cons (ps_expr (pe_call a1.ok hr rfl a1.nm a1.kp a1.bd .nil pass0 (pa_v (pv 0) (pa_v (pv 1) pa_nil)))) <|
   pss_cons (ps_set (i := 2) nd rfl (Or.inl rfl) (pe_lst pa_nil)) <|
   pss_cons (ps_for PassesOwn.never rfl (pi_tup (pv 1)) (pg_name (i := 3) nd rfl (Or.inr rfl))
    (pss_one (ps_if (pt_not (pt_val (pe_callB (call_any rfl) rfl T2.any boot_any (pa_lc (pe_comp1 (defScope sPieces).names nPs ["piece"] [("cell", 3)] rfl (pi_list (pv 2)) rfl rfl rfl (by decide +kernel)
      (fun Z => pg_name (i := 0) ndPs rfl (Or.inl rfl)) (fun Z => pts_nil) (fun Z => pe_cmpR (op_inD 1 (hu1_of hr)) (pv 1) (pv 0) rfl)) pa_nil))))
     (pss_one (ps_expr (pe_bm PySem.F.plainAttrs_list PySem.F.slot_list_append PySem.F.type_list_append mt_append (pv 2) (pa_k (pe_call a2.ok (hr.mono (by decide)) rfl a2.nm a2.kp a2.bd .nil pass0 (pa_v (pv 1) (pa_v (pv 3) pa_nil))) pa_nil)))) pss_nil))) <|
   pss_one (ps_ret (pv 2)), ?_⟩
  refine ⟨_, rfl, _, rfl, a, t, g, w', cs, rfl, hA, G, hT, hL, fun H1 s1 => ?_⟩
  refine ⟨by show 0 ≤ sizeLine; decide, fun lp hlp => ?_⟩
  have s2 := same_upd (o := .lst []) hlp
  have hT1 := hT.same s1
  obtain ⟨ts, ht, hP⟩ := id hT1
  have htl : ts.length = cs.length := Paired.length hP
  refine ⟨_, rfl, t, rfl, ⟨_, SqT.of (s2 _ _ ht)⟩, ?_⟩
  refine for_tup (K := K) (a := t) (xs := ts.map V.ref) (fun i σ H' => (∃ o, σ = [some (.ref a), some (.ref t), some (.ref lp), o]) ∧ Same H1 H' ∧ ∃ ws ps, H' lp = some (.lst ((ws : List Addr).map V.ref)) ∧ WkP H' ws ps ∧ Pcs cs (cs.take i) ps ∧ ps.length ≤ i)
   ⟨⟨_, rfl⟩, s2, [], [], upd_same, .nil, Pcs.nil _, Nat.zero_le _⟩ (fun i σ H' _ h => SqT.of (h.2.1 _ _ ht)) ?_ ?_
  ·rintro i x σ H' hx ⟨⟨o, rfl⟩, hs, ws, ps, hlp', hW, pc, hpl⟩
   obtain ⟨p, hp, rfl⟩ := getR hx
   obtain ⟨c, hc, he⟩ := hP.at hp
   have hi : i < ts.length := (List.getElem?_eq_some_iff.mp hp).1
   have hwl : ws.length = ps.length := Paired.length hW
   have et : cs.take (i + 1) = cs.take i ++ [c] := by rw [List.take_succ, hc]; rfl
   rw [et]
   refine ⟨_, rfl, lp, rfl, ⟨_, SqL.of hlp'⟩, fun Z l hl => ?_⟩
   refine for_list (K := K) (a := lp) (xs := ws.map V.ref) (fun j σ H2 => (∃ o, σ = [o, some (.ref p)]) ∧ Same H' H2 ∧ H2 l = some (.lst ((ps.take j).map fun R => V.bl (decide (c ∈ R))))) ⟨⟨_, rfl⟩, same_upd hl, by rw [upd_same]; rfl⟩ (fun j σ H2 _ h => SqL.of (h.2.1 _ _ hlp')) ?_ ?_
   ·rintro j y σ H2 hy ⟨⟨o', rfl⟩, hs2, hl2⟩
    obtain ⟨q1, hq1, rfl⟩ := getR hy
    obtain ⟨R, hR, rs, hrs, hRP⟩ := WkP.at hW hq1
    have hj : j < ws.length := (List.getElem?_eq_some_iff.mp hq1).1
    show tBodyC _ _ _ [some (.ref q1), some (.ref p)] H2
    refine ⟨_, rfl, _, rfl, q1, _, _, rfl, .inl (hs2 _ _ hrs), e3Pl (hs2 _ _ (hs _ _ he)) (hRP.same hs2), ?_⟩
    rw [any_eqP]
    refine ⟨_, hl2, small1000 (by rw [List.length_map, List.length_take]; omega), ⟨_, rfl⟩, fun b' u e' => ?_, ?_⟩
    ·rw [upd_ne (ne_of_none e' hl)]; exact hs2 _ _ e'
    ·rw [upd_same, List.take_succ, hR, List.map_append]; rfl
   ·rintro σ H2 ⟨_, hs2, hl2⟩
    rw [List.length_map, hwl, List.take_of_length_le (Nat.le_refl _)] at hl2
    refine ⟨l, ps.map fun R => decide (c ∈ R), rfl, SqL.of (by rw [hl2, List.map_map]; rfl), _, rfl, ?_⟩
    refine iteB (fun z' => ?_) fun z' => ?_
    ·have z : ∀ R ∈ ps, c ∉ R := fun R hR hcR => by
      have : (ps.map fun R => decide (c ∈ R)).any id = true := List.any_eq_true.mpr ⟨true, List.mem_map.mpr ⟨R, hR, decide_eq_true hcR⟩, rfl⟩
      rw [this] at z'; cases z'
     refine ⟨_, rfl, .inl ⟨rfl, _, SqL.of (hs2 _ _ hlp')⟩, ?_⟩
     have hcc : c ∈ cs := List.mem_of_getElem? hc
     refine ⟨_, rfl, _, rfl, t, p, cs, c, rfl, hT1.same (hs.trans hs2), h10, hs2 _ _ (hs _ _ he), hcc, fun t' N H3 s3 hN pN => ?_⟩
     have hlp3 := s3 _ _ (hs2 _ _ hlp')
     refine ⟨lp, _, _, rfl, rfl, hlp3, small1000 (by rw [List.length_map]; omega), ?_⟩
     refine ⟨⟨_, rfl⟩, fun b' u e' => ?_, ws ++ [t'], ps ++ [N], ?_, ?_, pc.new pN z, ?_⟩
     ·rw [upd_ne (ne_of_none e' hlp)]; exact s3 _ _ (hs2 _ _ (hs _ _ e'))
     ·rw [upd_same, List.map_append]; rfl
     ·exact Paired.snoc (Paired.mapP hW fun _ _ z => sqPut hlp3 ((z.same hs2).same s3)) (sqPut hlp3 hN)
     ·rw [List.length_append]; show _ + 1 ≤ _; omega
    ·have z : ∃ R ∈ ps, c ∈ R := by
      have : (ps.map fun R => decide (c ∈ R)).any id = true := by simpa using z'
      obtain ⟨b, hb, e⟩ := List.any_eq_true.mp this
      obtain ⟨R, hR, e'⟩ := List.mem_map.mp hb
      exact ⟨R, hR, of_decide_eq_true (e'.trans e)⟩
     exact ⟨⟨_, rfl⟩, hs.trans hs2, ws, ps, hs2 _ _ hlp', Paired.mapP hW fun _ _ z => z.same hs2, pc.old z, by omega⟩
  ·rintro σ H' ⟨⟨o, rfl⟩, hs, ws, ps, hlp', hW, pc, hpl⟩
   rw [List.length_map, htl, List.take_of_length_le (Nat.le_refl _)] at pc
   rw [List.length_map, htl] at hpl
   exact ⟨_, rfl, q lp ps H' (s1.free hlp) (s1.trans hs) ⟨ws, hlp', hW⟩ (by omega) pc⟩
end
end M50
namespace HT
open PySem PyProof.Rows
section
open PySem.SeqAt
open PySem.AutoSeq1 (wpAny_loadPart')
open PySem.MeetsSeq PySem.MeetsSeq2 PySem.MeetsSeq3
theorem rcGt_int (A : Around) (s : Shared) (a : Int) (t : Tok) (c : Int) (u : Tok) (prog : Program) (w : World) (E : Value → Shared → Prop) (Q : Value → Shared → Prop) (h : Q (.bool (decide (c < a))) s) :
  wpAny (model prog w) A (richCompare .Gt (.int a t) (.int c u)) Q E s :=
 (PyProof.Rows.gt_int h : wpAny (model prog w) A (compareOp .Gt (.int a t) (.int c u)) Q E s)
theorem gt_ints (l b : Addr) (xs ys : Array Value) (n n2 : Nat) (dd dd2 : Option Addr) (sl sl2 : Array (Option Value)) (ns ms : List Int) (hi : IntsAre xs.toList ns) (hj : IntsAre ys.toList ms) :
  Meets (Builtin.«tuple.__gt__» ⟨[.ref l, .ref b], []⟩)
   (fun _ R s => s.heap.get? l = some { cls := .type "tuple", dict := dd, data := .seq xs n, slots := sl } ∧ s.heap.get? b = some { cls := .type "tuple", dict := dd2, data := .seq ys n2, slots := sl2 } ∧
    R (.ok (.ret (.bool (lexLt ms ns)))) s) :=
 .of_wp fun prog w A R s h => by
  obtain ⟨hp, g, d, tk, os⟩ := s; obtain ⟨hl, hb, h⟩ := h
  have f2 := AutoSeq1.sub_tuple_tuple
  have z1 : xs.size = ns.length := by rw [← hi.length]; simp
  have z2 : ys.size = ms.length := by rw [← hj.length]; simp
  wp_walk using wpAny_loadPart' hl, wpAny_loadPart' hb, wpAny_forIn_list _ (fun rest b s' => b.1 = none ∧ s' = ⟨hp, g, d, tk, os⟩ ∧ ∃ (vs ws : List Value) (ns' ms' : List Int), rest = vs.zip ws ∧
   IntsAre vs ns' ∧ IntsAre ws ms' ∧ ns'.length + ys.size = ms'.length + xs.size ∧ R (.ok (.ret (.bool (lexLt ms' ns')))) ⟨hp, g, d, tk, os⟩) _
  case turn =>
   rintro ⟨y, x⟩ rest b s' ⟨hb', rfl, vs, ws, ns', ms', hz, hvi, hwi, hlen, hR⟩
   cases hvi with
   | nil => rw [List.zip_nil_left] at hz; cases hz
   | cons a t hvi' =>
    cases hwi with
    | nil => rw [List.zip_nil_right] at hz; cases hz
    | cons c u hwi' =>
     rw [List.zip_cons_cons] at hz
     injection hz with hyx hrest
     injection hyx with hy hx
     subst hy hx
     rw [lexLt_cons] at hR
     simp only [List.length_cons] at hlen
     obtain ⟨e, he, hiff⟩ := eqAt_int A.in1 ⟨hp, g, d, tk, os⟩ a t c u
     refine wpAny_bind (he prog w _ _ ?_)
     cases e with
     | true =>
      rw [if_pos (hiff.mp rfl).symm] at hR
      wp_walk
      exact ⟨rfl, rfl, _, _, _, _, hrest, hvi', hwi', by omega, hR⟩
     | false =>
      rw [if_neg (fun q => absurd (hiff.mpr q.symm) Bool.false_ne_true)] at hR
      have hri := rcGt_int A.in1 ⟨hp, g, d, tk, os⟩ a t c u prog w
      wp_walk using hri
      exact ⟨_, rfl, by simpa using hR⟩
  case fin =>
   rintro ⟨b1, b2⟩ s' ⟨hb', rfl, vs, ws, ns', ms', hz, hvi, hwi, hlen, hR⟩
   simp only at hb'
   subst hb'
   have hv : lexLt ms' ns' = decide (ys.size < xs.size) := by
    cases hvi with
    | nil =>
     cases hwi with
     | nil => simp only [List.length_nil] at hlen; exact (decide_eq_false (by omega)).symm
     | cons c u hw => simp only [List.length_nil, List.length_cons] at hlen; exact (decide_eq_false (by omega)).symm
    | cons a t hv =>
     cases hwi with
     | nil => simp only [List.length_nil, List.length_cons] at hlen; exact (decide_eq_true (by omega)).symm
     | cons c u hw => rw [List.zip_cons_cons] at hz; cases hz
   rw [hv] at hR
   wp_walk
   exact ⟨_, rfl, by simpa [Builtin.Tuple.tupleCompareSizes] using hR⟩
  case h =>
   exact ⟨rfl, rfl, xs.toList, ys.toList, ns, ms, rfl, hi, hj, by omega, h⟩
end
end HT
namespace L2
open PySem PySem.Spec PyProof.Rows
noncomputable def rGtT (K : PySem.W.Frag) : R2 := fun x y H Q => ∃ a b ns ms, x = .ref a ∧ y = .ref b ∧ SqT K H a (ns.map V.int) ∧ SqT K H b (ms.map V.int) ∧ Q (.bl (HT.lexLt ms ns)) H
theorem op_gtT {X : Cx} (hu : X.A.units < cLine) : OpR X (compareOp .Gt) (rGtT X.K) := by
 intro pins s σ H x y v u Q I rx ry h
 obtain ⟨a, b, ns, ms, rfl, rfl, ha, hb, q⟩ := h
 cases rx
 cases ry
 obtain ⟨its, r1, p1, _⟩ := I.tuple ha
 obtain ⟨its2, r2, p2, _⟩ := I.tuple hb
 have i1 : IntsAre its.toArray.toList ns := intsAre_of r1
 have i2 : IntsAre its2.toArray.toList ms := intsAre_of r2
 obtain ⟨⟨cls, dd, data, sl⟩, ho, hc, n, hd⟩ := id p1
 obtain ⟨⟨cls2, dd2, data2, sl2⟩, ho2, hc2, n2, hd2⟩ := id p2
 simp only at hc hd hc2 hd2
 subst hc hd hc2 hd2
 exact richCompare_meets_room (op := .Gt) ⟨_, ho, rfl⟩ ⟨_, ho2, rfl⟩ PySem.F.slot_tuple_gt PySem.F.entry_tuple_gt (PySem.F.args_tuple_gt_2 _ _) (HT.gt_ints a b _ _ n n2 dd dd2 sl sl2 ns ms i1 i2)
  ⟨ho, ho2, (fun x => nomatch x), ⟨.bl (HT.lexLt ms ns), H, I, rfl, q⟩⟩ hu
end L2
namespace L2
open PySem PySem.Spec PyProof.Rows
section
variable {X : Cx} {pins : List (Addr × Obj)} {σ : St} {H2 : Hp} {s2 : Shared} {scope : Scope} {loc : List Str} {frees : List (Str × Nat)} {ns : List (Str × NameKind)} {N : List Str} {fp : List Addr} {cl : List (Str × Addr)}
theorem comp_startD (I2 : Inv X pins σ H2 s2) (hns : X.env.scope.names = ns) (hN : X.N = N) (hk : scope.kind = .function) (ok : CompOk ns N scope frees) (f2 : ∀ b ∈ fp, FpOk X pins H2 b) (hlive : ∀ b ∈ fp, ∃ o, s2.heap.get? b = some o)
  (hc1 : ∀ x c, cl.lookup x = some c → X.env.cells.lookup x = some c) (hc2 : ∀ x, (x, NameKind.free) ∈ scope.names → ∃ c, cl.lookup x = some c)
  {C : Addr} {h4 : Heap} {tk : Nat} (hC : C = s2.heap.objs.size + 1) (hnsC : ∃ m, h4.Ns C m) (hacc : h4.get? s2.heap.objs.size = some { cls := .type "dict", data := .dict #[] })
  (hkeep : ∀ b o, s2.heap.get? b = some o → h4.get? b = some o) :
  Inv (compCx X (loc ++ frees.map (·.1)) scope ⟨cl, C, s2, H2, fp, X.pn ++ pins⟩) [] (σC loc.length frees σ) (upd H2 s2.heap.objs.size (.dT [])) { s2 with heap := h4, toks := tk } := by
 have below : ∀ {b : Addr} {o : Obj}, s2.heap.get? b = some o → b ≠ C := fun {b o} e z => by
  have := Heap.lt_size e
  rw [z, hC] at this
  exact Nat.lt_irrefl _ (Nat.lt_of_succ_lt this)
 have hl : H2 s2.heap.objs.size = none := I2.hok.fresh (Nat.le_refl _)
 have hCn : H2 C = none := I2.hok.fresh (by rw [hC]; exact Nat.le_succ _)
 have cne : ∀ x c, X.env.cells.lookup x = some c → ∃ o v, s2.heap.get? c = some o ∧ o.data = .cell v := fun x c e => by
  obtain ⟨v, o, ho, hd⟩ := I2.cell x c e
  exact ⟨o, v, ho, hd⟩
 obtain ⟨mC, hmC⟩ := hnsC
 have hCl : C ≠ s2.heap.objs.size := by rw [hC]; exact Nat.succ_ne_self _
 refine ⟨⟨I2.ok.mod, hk, I2.ok.glob, I2.ok.blt, ?_, fun x y c h1 h2 => I2.ok.inj x y c (hc1 x c h1) (hc1 y c h2), fun x hx => ?_, fun x c h => (Bool.false_ne_true h).elim, I2.ok.hd, I2.ok.frames, .inl rfl, fun b hb => ⟨?_, fun x c e z => ?_⟩, I2.bs, Nat.le_trans I2.ok.bsz I2.sz, fun b o e hb => ?_, fun b hb hfs => ?_, I2.stack, I2.stkFree⟩,
  rfl, I2.bare, ?_, ⟨mC, hmC, fun i x v h1 h2 h3 => ?_⟩, fun x c e => ?_, ?_, fun x c e => ?_, fun p hp => ?_, ?_, ?_⟩
 ·show s2.heap.objs.size ≤ C
  rw [hC]; exact Nat.le_succ _
 ·-- has
  have hx' : (relabel scope X.env).names.lookup x = some .cell ∨ (relabel scope X.env).names.lookup x = some .free := hx
  rcases relabel_back hx' with z | z
  ·exact hc2 x z
  ·exact absurd rfl (ok.1 _ z).1
 ·obtain ⟨o, ho⟩ := hlive b hb
  exact below ho
 ·exact (f2 b hb).2.2.2.2.1 x c (hc1 x c e) z
 ·rcases (f2 b hb).2.2.2.1 with z | z
  ·exact I2.ok.noex b o e z
  ·exact absurd (Nat.lt_of_lt_of_le (Heap.lt_size (I2.ok.bs b o e).1) z) (Nat.lt_irrefl _)
 ·rcases List.mem_cons.mp (I2.stkSub b hfs) with z | z
  ·exact (f2 b hb).2.1 z
  ·exact (f2 b hb).2.2.1 z
 ·exact Un.laid hkeep (Nat.le_refl _) hl
 ·-- loc
  have hi : ¬ i < loc.length := fun hlt => by
   unfold σC at h2
   rw [List.getElem?_append_left (by simpa using hlt), List.getElem?_replicate] at h2
   simp [hlt] at h2
  have h2' : (frees[i - loc.length]?).map (fun p => (σ[p.2]?).join) = some (some v) := by
   unfold σC at h2
   rw [List.getElem?_append_right (by simpa using hi), List.length_replicate, List.getElem?_map] at h2
   exact h2
  have h1' : (frees[i - loc.length]?).map (·.1) = some x := by
   have h1 : (loc ++ frees.map (·.1))[i]? = some x := h1
   rw [List.getElem?_append_right (by omega), List.getElem?_map] at h1
   exact h1
  cases ep : frees[i - loc.length]? with
  | none => rw [ep] at h1'; simp at h1'
  | some p =>
   rw [ep] at h1' h2'
   simp only [Option.map_some, Option.some.injEq] at h1' h2'
   obtain ⟨q1, q2, q3⟩ := ok.2 p (List.mem_of_getElem? ep)
   have hσ : σ[p.2]? = some (some v) := by
    cases e : σ[p.2]? with
    | none => rw [e] at h2'; simp at h2'
    | some o => rw [e] at h2'; simp at h2'; rw [h2']
   have vis : Vis X.env.scope p.1 := by
    show _ ∨ _
    rw [hns]; rcases q3 with z | z
    ·exact .inr (.inl z)
    ·exact .inr (.inr z)
   obtain ⟨m, hn, hlk⟩ := I2.loc
   obtain ⟨u, ru, lk⟩ := hlk p.2 p.1 v (by rw [hN]; exact q1) hσ vis
   refine ⟨u, ru, .inr ?_⟩
   rw [← h1']
   rcases lk with ⟨z, _⟩ | ⟨_, c, ec, hcell⟩
   ·have z' : X.env.scope.names.lookup p.1 = some .local := z
    rw [hns] at z'
    rcases q3 with y | y <;> rw [z'] at y <;> cases y
   ·obtain ⟨c', hc'⟩ := hc2 p.1 (PySem.mem_of_lookup q2)
    have : c' = c := by have := hc1 _ _ hc'; rw [ec] at this; exact (Option.some.inj this).symm
    subst this
    refine ⟨relabel_free q2, c', hc', ?_⟩
    obtain ⟨o, ho, hd⟩ := hcell
    exact ⟨o, hkeep _ _ ho, hd⟩
 ·obtain ⟨o, v, ho, hd⟩ := cne x c (hc1 x c e)
  exact ⟨v, o, hkeep _ _ ho, hd⟩
 ·show upd H2 _ _ C = none
  rw [upd_ne hCl]; exact hCn
 ·obtain ⟨o, v, ho, hd⟩ := cne x c (hc1 x c e)
  have : c ≠ s2.heap.objs.size := Nat.ne_of_lt (Heap.lt_size ho)
  rw [upd_ne this]
  exact I2.freeC x c (hc1 x c e)
 ·have hp' : p ∈ X.pn ++ pins := by
   rcases List.mem_append.mp hp with z | z
   ·exact z
   ·exact absurd z (by simp)
  obtain ⟨e, n, ne, nf, d⟩ := I2.pin p hp'
  refine ⟨hkeep _ _ e, ?_, below e, fun z => ?_, d⟩
  ·rw [upd_ne (Nat.ne_of_lt (Heap.lt_size e))]; exact n
  ·rcases List.mem_cons.mp (I2.stkSub p.1 z) with y | y
   ·exact ne y
   ·exact nf y
 ·exact I2.hok.laid hkeep (Nat.le_refl _) ⟨Nat.zero_le _, beq_eq_false_iff_ne.mpr (Ne.symm (Nat.ne_of_lt I2.big)), [], .nil, _, #[], 0, hacc, ⟨rfl, rfl, rfl⟩, rfl, rfl, List.nodup_nil⟩
 ·show (σC loc.length frees σ).length = (loc ++ frees.map (·.1)).length
  unfold σC
  simp
end
noncomputable def tEmitD (l : Addr) (tk tv : TE) : TC := fun σ H Q => tk σ H fun y H1 => tv σ H1 fun v H2 => ∃ b kvs k, y = .ref b ∧ H2 l = some (.dT kvs) ∧ H2 b = some (.tup ((k : List Key).map kV)) ∧ kvs.length < sizeLine ∧ Q σ (upd H2 l (.dT (putK kvs k v)))
noncomputable def tailEmitD (kx vx : Expr) (acc : Value) (env : Env) (k : Unit → Sem Fin) : Sem Fin := (eval kx env >>= fun kv => holding [kv] (eval vx env) >>= fun vv => match acc with
    | .ref d => do
     standAt { kx.pos with endLine := vx.pos.endLine, endCol := vx.pos.endCol }
     holding [kv, vv] (dictSet d kv vv)
    | _ => unsupported "internal:dictcomp") >>= k
theorem turn_1D (kx vx tg iter : Expr) (ifs : List Expr) (scope : Scope) (pos : Pos) (it acc : Value) (env : Env) :
  compTurn (.DictComp kx vx [⟨tg, iter, ifs, 0⟩] scope pos) 0 it acc env = turnOf (.DictComp kx vx [⟨tg, iter, ifs, 0⟩] scope pos) 0 it acc env tg iter ifs (tailEmitD kx vx acc env) := by rfl
theorem pb_emitD {Y : Cx} {kx vx : Expr} {tk tv : TE} {l : Addr} (hx : Y.xe = fun _ _ => False) (hu : Y.A.units < cLine) (he : PE Y kx tk) (hv : PE Y vx tv) : PB Y (tailEmitD kx vx (.ref l) Y.env) (tEmitD l tk tv) := by
 intro pins s σ H Q Q' k I h hk
 refine wpAny_bind (wpAny_bind (thn (nox_of (he pins s σ H _ I h) hx) fun kv s1 ⟨x, H1, I1, r1, q1⟩ => ?_))
 refine wpAny_bind (wpAny_holding (thn (nox_of (hv pins s1 σ H1 _ I1 q1) hx) fun vv s2 ⟨y, H2, I2, r2, q2⟩ => ?_))
 obtain ⟨b, kvs, ks, rfl, e, eb, hl, q⟩ := q2
 cases (show kv = Value.ref b from r1)
 obtain ⟨z, hd, xs, rel, dd⟩ := dt_of I2.hok e
 have hz : xs.length ≤ sizeLine := by rw [← Paired.length rel]; exact z
 have hl' : (putK kvs ks y).length ≤ sizeLine := by have := length_putK kvs ks y; omega
 refine wpAny_bind (wpAny_standAt (wpAny_holding ?_))
 refine wpAny_dictSet_heap (hsz := hz) (knd := tupleKind (mixKind Y.prog Y.w)) hu (key_of I2.hok eb) dd fun h' dd' hs => hk _ _ _ ?_ q
 obtain ⟨q', es, ep, hq, h2, h3, h4, _, h5⟩ := dd'
 refine d_write I2 (by rw [e]; exact True.intro) hs ⟨q', hq⟩ ⟨hl', hd, _, (rel.put ks eb r2).keeps fun c ys ec => ?_, q', es, ep, hq, h2, h3, h4, h5⟩
 rw [upd_ne (ne_of ec e (fun z => nomatch z))]
 exact ec
section
variable {Y : Cx}
theorem comp_loopD {kx vx tg iter : Expr} {gens : List Comprehension} {scope : Scope} {pos : Pos} {d : Nat} {ifs : List Expr} {it l : Addr} {tail : (Unit → Sem Fin) → Sem Fin} {fp : List Addr} {tn : Nat → Heap → Prop} {J : It} {g : TG} {tt : TT} {tb : TC} {pins : List (Addr × Obj)} {σ : St} {H : Hp} {s : Shared} {Q : St → Hp → Prop}
  (hx : Y.xe = fun _ _ => False) (hc : Y.calm = true) (heq : compTurn (.DictComp kx vx gens scope pos) d (.ref it) (.ref l) Y.env = turnOf (.DictComp kx vx gens scope pos) d (.ref it) (.ref l) Y.env tg iter ifs tail) (hg : PG Y tg g) (ht : PTs Y ifs tt) (hb : PB Y tail tb)
  (I : Inv Y pins σ H s) (T : Turn Y.prog Y.w Y.K tg J fp it tn) (st : tn 0 s.heap) (f2 : ∀ b ∈ fp, FpOk Y pins H b) (h : tForJ J g (tBodyC tt tb) (eC Q) σ H) :
  codeAny (model Y.prog Y.w) Y.A (.compLoop (.DictComp kx vx gens scope pos) d (.ref it) (.ref l) Y.env) (fun r s' => r = .ok .next ∧ ∃ σ' H', Inv Y pins σ' H' s' ∧ Q σ' H') s := by
 obtain ⟨W, ⟨m0, w0⟩, turn⟩ := h
 have stat : ∀ {H' : Hp}, (∀ b ∈ fp, H' b = none) → ∀ b ∈ fp, FpOk Y pins H' b := fun hn b hb => ⟨hn b hb, (f2 b hb).2⟩
 refine codeAny_loop rfl (fun n s' => ∃ i σ' H', Inv Y pins σ' H' s' ∧ tn i s'.heap ∧ (∀ b ∈ fp, H' b = none) ∧ W i n σ' H') (fun n s3 hI => ?_) m0 ⟨0, σ, H, I, st, fun b hb => (f2 b hb).1, w0⟩
 obtain ⟨i, σ3, H3, I3, st3, fr3, w3⟩ := hI
 show wpAny _ Y.A ((compTurn (.DictComp kx vx gens scope pos) d (.ref it) (.ref l) Y.env).onRaise (fun x => do noteFrame x Y.env; theTreesLotGoes x)) _ _ s3
 refine wpAny_noted ?_
 rw [heq]
 unfold turnOf
 refine wpAny_bind (wpAny_standAt (wpAny_bind ?_))
 rcases turn i n σ3 H3 w3 with ⟨stop, qn⟩ | ⟨go, N, hN, step⟩
 ·refine thn (T.done Y rfl rfl rfl hc i pins s3 σ3 H3 _ I3 (stat fr3) st3 stop) fun r s4 ⟨hr, I4⟩ => ?_
  subst hr
  exact wpAny_pure ⟨rfl, σ3, H3, I4, qn⟩
 ·refine thn (T.item Y rfl rfl rfl hc i pins s3 σ3 H3 _ I3 (stat fr3) st3 go) fun r s4 ⟨u, hr, h4⟩ => ?_
  subst hr
  refine wpAny_bind (thn h4 fun _ s5 ⟨x, H5, I5, r5, y5, st5, fr5⟩ => ?_)
  have I5' := I5.pinned (stat fr5) (T.obj _ _ st5)
  refine wpAny_bind (thn (nox_of (hg _ s5 σ3 H5 x u _ I5' r5 (step x H5 y5)) hx) fun _ s6 ⟨σ6, H6, I6, q6⟩ => ?_)
  refine wpAny_bind (thn (nox_of (ht _ s6 σ6 H6 _ I6 q6) hx) fun ok s7 ⟨H7, I7, q7⟩ => ?_)
  have again : ∀ {σ7 : St} {H7 : Hp} {s7 : Shared}, Inv Y (pins ++ pinsAt fp s5.heap) σ7 H7 s7 → N σ7 H7 → ∃ m, m < n ∧ ∃ i σ' H', Inv Y pins σ' H' s7 ∧ tn i s7.heap ∧ (∀ b ∈ fp, H' b = none) ∧ W i m σ' H' := fun {σ7 H7 s7} I7 n7 => by
   obtain ⟨m', hm, w7⟩ := hN σ7 H7 n7
   refine ⟨m', hm, i + 1, σ7, H7, I7.unpinned, T.keep _ _ _ st5 fun b hb o e => (I7.pin (b, o) (List.mem_append_right _ (List.mem_append_right _ (mem_pinsAt hb e)))).1, fun b hb => ?_, w7⟩
   obtain ⟨o, e, d⟩ := T.obj _ _ st5 b hb
   exact (I7.pin (b, o) (List.mem_append_right _ (List.mem_append_right _ (mem_pinsAt hb e)))).2.1
  cases ok with
  | false =>
   rw [if_neg Bool.false_ne_true] at q7 ⊢
   exact wpAny_pure ⟨rfl, again I7 q7⟩
  | true =>
   rw [if_pos rfl] at q7 ⊢
   exact nox_of (hb _ s7 σ6 H7 _ _ _ I7 q7 fun σ8 H8 s8 I8 q8 => wpAny_pure ⟨rfl, again I8 q8⟩) rfl
end
noncomputable def tCompD (wi : TI) (g : CompZ → TG) (tt : CompZ → TT) (tk tv : CompZ → TE) (n : Nat) (frees : List (Str × Nat)) : TE := fun σ H Q => wi σ H fun J H1 => ∀ (Z : CompZ) (l : Addr), H1 l = none → tForJ J (g Z) (tBodyC (tt Z) (tEmitD l (tk Z) (tv Z))) (eC fun _ H' => Q (.ref l) H') (σC n frees σ) (upd H1 l (.dT []))
section
variable {X : Cx} {scope : Scope} {loc : List Str} {frees : List (Str × Nat)} {ns : List (Str × NameKind)} {N : List Str} {pos : Pos}
theorem comp_coreD {e : Expr} {gs : List Comprehension} {g0 : Comprehension} {wi : TI} {tg iter : Expr} {R : CompZ → Addr → It → St → Hp → (Hp → Prop) → Prop} {use : Option (Value → Sem Unit)} {Q : Value → Shared → Prop} {newPos : Pos}
  (hcl : clausesOf e = g0 :: gs) (hg0 : g0.iter = iter) (hi : PI X tg iter wi) (hns : X.env.scope.names = ns) (hN : X.N = N) (hk : scope.kind = .function) (ok : CompOk ns N scope frees)
  (hs : ∀ x, foldedSetIterable iter X.env x = pure x) {pins : List (Addr × Obj)} {s : Shared} {σ : St} {H : Hp} {QH : Addr → Hp → Prop} (I : Inv X pins σ H s)
  (h : wi σ H fun J H1 => ∀ (Z : CompZ) (l : Addr), H1 l = none → R Z l J (σC loc.length frees σ) (upd H1 l (.dT [])) (QH l))
  (block : ∀ (Z : CompZ) (l it : Addr) (fp : List Addr) (tn : Nat → Heap → Prop) (J : It) (H4 : Hp) (s4 : Shared) (σ4 : St), Z.fp = fp → Inv (compCx X (loc ++ frees.map (·.1)) scope Z) [] σ4 H4 s4 → Turn X.prog X.w X.K tg J fp it tn → tn 0 s4.heap →
   (∀ b ∈ fp, FpOk (compCx X (loc ++ frees.map (·.1)) scope Z) [] H4 b) → R Z l J σ4 H4 (QH l) →
   codeAny (model X.prog X.w) X.A (.compStart e 0 (.ref it) (.ref l) (compEnvC scope Z.cl Z.C X.env)) (fun r s' => r = .ok .next ∧ ∃ σ' H', Inv (compCx X (loc ++ frees.map (·.1)) scope Z) [] σ' H' s' ∧ QH l H') s4)
  (fin : ∀ (l C : Addr) (H' : Hp) (s' : Shared), (∃ m, s'.heap.Ns C m) → Inv X pins σ H' s' → H' C = none → X.s₀.heap.objs.size ≤ C → C ≠ X.env.locals → (∀ x c, X.env.cells.lookup x = some c → c ≠ C) → (∀ h', Heap.SameBut C s'.heap h' → Inv X pins σ H' { s' with heap := h' }) → (∀ p ∈ X.pn ++ pins, p.1 ≠ C) → QH l H' →
   compPost (model X.prog X.w) X.A X.xe use Q (.ref l) C (.ok .next) s') :
  wpAny (model X.prog X.w) X.A (comprehension e scope X.env newPos newDict false (eval iter X.env) use) Q X.xe s := by
 obtain ⟨cl, hclos, hc1, hc2⟩ := clos_ok (env := X.env) (scope := scope) fun x hx hf => by
  refine I.ok.has x.1 ?_
  have := (ok.1 x hx).2.2 hf
  rw [← hns] at this
  exact this
 have hs' : ∀ x, foldedSetIterable g0.iter X.env x = pure x := by rw [hg0]; exact hs
 refine wpAny_comprehension_free hcl hs' hclos hk (fun x hx hl => (ok.1 x hx).2.1 hl) (thn (hi pins s σ H _ I h) fun v s1 h1 => thn h1 fun itv s2 h2 => ?_)
 obtain ⟨it, fp, tn, J, H2, e2, I2, T, st2, f2, q2⟩ := h2
 subst e2
 refine wpAny_newObj_type (wpAny_newFunctionEnv (fun x hx => (ok.1 x hx).1) (by intro y hy; simp at hy) (fun h₁ hns₁ hsb₁ => ?_) hk)
 dsimp only at hns₁ hsb₁ ⊢
 have hsz : (s2.heap.push { cls := .type "dict", data := .dict #[] }).objs.size = s2.heap.objs.size + 1 := Heap.size_push ..
 generalize hCeq : (s2.heap.push { cls := .type "dict", data := .dict #[] }).objs.size = C at hns₁ hsb₁ hsz ⊢
 have keep : ∀ b o, s2.heap.get? b = some o → h₁.get? b = some o := fun b o e => hsb₁.extBut b o (by rw [hsz]; exact Nat.ne_of_lt (Nat.lt_succ_of_lt (Heap.lt_size e))) (Heap.get?_push_of_some _ (Heap.get?_push_of_some _ e))
 have hacc : h₁.get? s2.heap.objs.size = some { cls := .type "dict", data := .dict #[] } :=
  hsb₁.extBut _ _ (by rw [hsz]; exact Nat.ne_of_lt (Nat.lt_succ_self _)) (Heap.get?_push_of_some _ (Heap.get?_push_size _ rfl))
 have live : ∀ b ∈ fp, ∃ o, s2.heap.get? b = some o := fun b hb => let ⟨o, ho, _⟩ := T.obj _ _ st2 b hb; ⟨o, ho⟩
 have J0 := comp_startD (scope := scope) (loc := loc) (frees := frees) (tk := s2.toks + ([] : List (Str × Value)).length) I2 hns hN hk ok f2 live hc1 hc2 hsz ⟨_, hns₁⟩ hacc keep
 have hln : H2 s2.heap.objs.size = none := I2.hok.fresh (Nat.le_refl _)
 have B := block ⟨cl, C, s2, H2, fp, X.pn ++ pins⟩ s2.heap.objs.size it fp tn J _ _ _ rfl J0 T (T.keep _ _ _ st2 fun b _ o e => keep b o e) (fun b hb => by
  obtain ⟨o, ho⟩ := live b hb
  obtain ⟨z0, z1, z2, z3, z4, z5⟩ := f2 b hb
  refine ⟨?_, ?_, fun z => ?_, .inl hb, fun x c e => z4 x c (hc1 x c e), fun p hp => z5 p ?_⟩
  ·rw [upd_ne (Nat.ne_of_lt (Heap.lt_size ho))]; exact z0
  ·show b ≠ C
   rw [hsz]; exact Nat.ne_of_lt (Nat.lt_succ_of_lt (Heap.lt_size ho))
  ·rcases List.mem_cons.mp (I2.stkSub b z) with y | y
   ·exact z1 y
   ·exact z2 y
  ·rcases List.mem_append.mp hp with y | y
   ·exact y
   ·exact absurd y (by simp)) (q2 _ _ hln)
 refine codeAny_mono B fun r s' hr => ?_
 obtain ⟨rfl, σ', H', J', q'⟩ := hr
 obtain ⟨m', hm', _⟩ := J'.loc
 have hCl : C ≠ X.env.locals := fun z => by
  have := I2.lt
  rw [← z, hsz] at this; exact Nat.lt_irrefl _ (Nat.lt_of_succ_lt this)
 have hCc : ∀ x c, X.env.cells.lookup x = some c → c ≠ C := fun x c e z => by
  obtain ⟨v, q⟩ := I2.cell x c e
  have := q.lt
  rw [z, hsz] at this; exact Nat.lt_irrefl _ (Nat.lt_of_succ_lt this)
 have hCp : ∀ p ∈ X.pn ++ pins, p.1 ≠ C := fun p hp z => by
  have := Heap.lt_size (I2.pin p hp).1
  rw [z, hsz] at this; exact Nat.lt_irrefl _ (Nat.lt_of_succ_lt this)
 exact fin s2.heap.objs.size C H' s' ⟨m', hm'⟩ (by have := comp_back I2 f2 hsz J' (Heap.SameBut.refl C s'.heap); exact this) J'.free (by rw [hsz]; exact Nat.le_trans I2.sz (Nat.le_succ _)) hCl hCc (fun h' hs => comp_back I2 f2 hsz J' hs) hCp q'
theorem pe_compD {kx vx tg iter : Expr} {ifs : List Expr} {wi : TI} {g : CompZ → TG} {tt : CompZ → TT} {tk tv : CompZ → TE} (ns : List (Str × NameKind)) (N : List Str) (loc : List Str) (frees : List (Str × Nat)) (hc : X.calm = true) (hi : PI X tg iter wi)
  (hns : X.env.scope.names = ns) (hN : X.N = N) (hk : scope.kind = .function) (ok : CompOk ns N scope frees)
  (hg : ∀ Z, PG (compCx X (loc ++ frees.map (·.1)) scope Z) tg (g Z)) (ht : ∀ Z, PTs (compCx X (loc ++ frees.map (·.1)) scope Z) ifs (tt Z)) (hu : X.A.units < cLine) (he : ∀ Z, PE (compCx X (loc ++ frees.map (·.1)) scope Z) kx (tk Z)) (hv : ∀ Z, PE (compCx X (loc ++ frees.map (·.1)) scope Z) vx (tv Z))
  (hs : ∀ x, foldedSetIterable iter X.env x = pure x := by intro _; rfl) : PE X (.DictComp kx vx [⟨tg, iter, ifs, 0⟩] scope pos) (tCompD wi g tt tk tv loc.length frees) := by
 intro pins s σ H Q I h
 rw [arm_eval_DictComp]
 refine comp_coreD (e := .DictComp kx vx [⟨tg, iter, ifs, 0⟩] scope pos) (g0 := ⟨tg, iter, ifs, 0⟩) (gs := []) (tg := tg) (iter := iter) (loc := loc) (R := fun Z l J σ H QH => tForJ J (g Z) (tBodyC (tt Z) (tEmitD l (tk Z) (tv Z))) (eC fun _ H' => QH H') σ H) (use := none) (QH := fun l H' => Q (.ref l) H') rfl rfl hi hns hN hk ok hs I h ?_ ?_
 ·intro Z l it fp tn J H4 s4 σ4 hfp I4 T st4 f4 q4
  have L := comp_loopD (Y := compCx X (loc ++ frees.map (·.1)) scope Z) rfl hc (turn_1D kx vx tg iter ifs scope pos (.ref it) (.ref l) _) (hg Z) (ht Z) (pb_emitD rfl hu (he Z) (hv Z)) I4 T st4 f4 q4
  refine codeAny_mono (codeAny_compStart_dict L (T.self _ _ _ _ _ st4 L)) fun r s' hr => ?_
  exact hr
 ·intro l C H' s' hm J' hn h1 h2 h3 h4 _ q'
  obtain ⟨m, hm⟩ := hm
  exact ⟨m, hm, fun h' hs' => ⟨.ref l, H', h4 h' hs', rfl, q'⟩⟩
end
end L2
namespace PySem
open PyProof.Rows
noncomputable abbrev zM1 (h : Heap) (l1 : Addr) : Heap := h.push { cls := .type "list_iterator", data := .fields #[.ref l1, .int 0 0] }
noncomputable abbrev zM2 (h : Heap) (l1 l2 : Addr) : Heap := (zM1 h l1).push { cls := .type "tuple_iterator", data := .fields #[.ref l2, .int 0 0] }
noncomputable abbrev zM3 (h : Heap) (l1 l2 : Addr) : Heap := (zM2 h l1 l2).push { cls := .type "tuple", data := .seq #[.ref h.objs.size, .ref (zM1 h l1).objs.size] }
noncomputable abbrev zM4 (h : Heap) (l1 l2 : Addr) : Heap := (zM3 h l1 l2).push { cls := .type "tuple", data := .seq #[.none, .none] }
noncomputable abbrev zM5 (h : Heap) (l1 l2 : Addr) : Heap := (zM4 h l1 l2).push { cls := .type "zip", data := .fields #[.none, .bool false, .bool false, .ref (zM2 h l1 l2).objs.size, .ref (zM3 h l1 l2).objs.size] }
theorem meets_zip_newM (l1 l2 : Addr) (xs ys : Array Value) :
  Meets (Builtin.«zip.__new__» ⟨[.type "zip", .ref l1, .ref l2], []⟩) (fun _ R s => s.heap.IsList l1 xs ∧ s.heap.IsTuple l2 ys ∧ R (.ok (.ret (.ref (zM4 s.heap l1 l2).objs.size))) { s with heap := zM5 s.heap l1 l2 }) :=
 .of_wp fun prog w A R s h => by
  obtain ⟨hp, g, d, tk, os⟩ := s; obtain ⟨p1, p2, h⟩ := h
  have isz := sub_zip
  have q1 : Heap.IsList (Shared.heap ⟨hp, g, d, tk, os⟩) l1 xs := p1
  have q2 : Heap.IsTuple (Shared.heap ⟨hp.push { cls := .type "list_iterator", data := .fields #[.ref l1, .int 0 0] }, g, d, tk, os⟩) l2 ys := let ⟨o, ho, r⟩ := p2; ⟨o, Heap.get?_push_of_some _ ho, r⟩
  wp_walk using wpAny_pyIter_list q1, wpAny_pyIter_tuple q2
  exact ⟨_, rfl, h⟩
section
variable {prog : Program} {w : World} {A : Around} {E : Value → Shared → Prop} {s : Shared}
theorem call_zip_M {l1 l2 : Addr} {xs ys : Array Value} {Q : Value → Shared → Prop} (p1 : s.heap.IsList l1 xs) (p2 : s.heap.IsTuple l2 ys)
  (h : ∀ h', IsZip h' (s.heap.objs.size + 4) (s.heap.objs.size + 2) (s.heap.objs.size + 3) .none → IsPair h' (s.heap.objs.size + 2) (.ref s.heap.objs.size) (.ref (s.heap.objs.size + 1)) →
   IsPair h' (s.heap.objs.size + 3) .none .none → h'.IsListIter s.heap.objs.size l1 0 → h'.IsTupleIter (s.heap.objs.size + 1) l2 0 → h'.objs.size = s.heap.objs.size + 5 →
   (∀ c o, s.heap.get? c = some o → h'.get? c = some o) → Q (.ref (s.heap.objs.size + 4)) { s with heap := h' }) :
  wpAny (model prog w) A (call (.type "zip") [.ref l1, .ref l2]) Q E s := by
 refine callType_new F.called_zip (by decide) (F.typeCall_zip_2 _ _) (F.newCall_zip_2 _ _) (fun obj => F.args_object_init_3 obj _ _) F.entry_zip_new (meets_zip_newM l1 l2 xs ys) ⟨p1, p2, ?_⟩
 have y1 : (zM1 s.heap l1).objs.size = s.heap.objs.size + 1 := Heap.size_push ..
 have y2 : (zM2 s.heap l1 l2).objs.size = s.heap.objs.size + 2 := by rw [Heap.size_push, y1]
 have y3 : (zM3 s.heap l1 l2).objs.size = s.heap.objs.size + 3 := by rw [Heap.size_push, y2]
 have y4 : (zM4 s.heap l1 l2).objs.size = s.heap.objs.size + 4 := by rw [Heap.size_push, y3]
 have y5 : (zM5 s.heap l1 l2).objs.size = s.heap.objs.size + 5 := by rw [Heap.size_push, y4]
 have r5 : (zM5 s.heap l1 l2).get? (zM4 s.heap l1 l2).objs.size = some _ := Heap.get?_push_size _ rfl
 have r4 : (zM5 s.heap l1 l2).get? (zM3 s.heap l1 l2).objs.size = some _ := Heap.get?_push_of_some _ (Heap.get?_push_size _ rfl)
 have r3 : (zM5 s.heap l1 l2).get? (zM2 s.heap l1 l2).objs.size = some _ := Heap.get?_push_of_some _ (Heap.get?_push_of_some _ (Heap.get?_push_size _ rfl))
 have r2 : (zM5 s.heap l1 l2).get? (zM1 s.heap l1).objs.size = some _ := Heap.get?_push_of_some _ (Heap.get?_push_of_some _ (Heap.get?_push_of_some _ (Heap.get?_push_size _ rfl)))
 have r1 : (zM5 s.heap l1 l2).get? s.heap.objs.size = some _ := Heap.get?_push_of_some _ (Heap.get?_push_of_some _ (Heap.get?_push_of_some _ (Heap.get?_push_of_some _ (Heap.get?_push_size _ rfl))))
 show _ ∧ _
 rw [y2, y3, y4] at r5; rw [y1, y2] at r3; rw [y3] at r4; rw [y1] at r2; rw [y4]
 exact ⟨⟨_, r5, rfl⟩, h _ r5 r3 r4 ⟨_, r1, rfl, rfl⟩ ⟨_, r2, rfl, rfl⟩ y5 fun c o x => Heap.get?_push_of_some _ (Heap.get?_push_of_some _ (Heap.get?_push_of_some _ (Heap.get?_push_of_some _ (Heap.get?_push_of_some _ x))))⟩
end
end PySem
namespace L2
open PySem PySem.Spec PyProof.Rows
theorem turn_zipM {P : Program} {w : World} {K : PySem.W.Frag} {es : List Expr} {x1} {pos : Pos} {k k2 : SeqK} (ok : k.Ok) (ok2 : k2.Ok) (z TI TO i1 i2 a b : Addr) (D : ZipFar z TI TO i1 i2 [i1, a] [i2, b]) (ha : a ≠ i1) (hb : b ≠ i2) :
  Turn P w K (.Tuple es x1 pos) (Itz (fun H xs => k.Sq K H a xs) fun H ys => k2.Sq K H b ys) [z, TI, TO, i1, i2] z (fun i h => IsZip h z TI TO .none ∧ IsPair h TI (.ref i1) (.ref i2) ∧ (∃ u v, IsPair h TO u v) ∧ k.iit h i1 a i ∧ k2.iit h i2 b i) where
 mem := by simp
 obj := fun i h st c hc => by
  obtain ⟨hz, hTI, ⟨u, v, hTO⟩, h1, h2⟩ := st
  simp only [List.mem_cons, List.not_mem_nil, or_false] at hc
  rcases hc with rfl | rfl | rfl | rfl | rfl
  ·exact ⟨_, hz, fun v z => by cases z⟩
  ·exact ⟨_, hTI, fun v z => by cases z⟩
  ·exact ⟨_, hTO, fun v z => by cases z⟩
  ·exact ok.obj h1
  ·exact ok2.obj h2
 keep := fun i h h' st kp => by
  obtain ⟨hz, hTI, ⟨u, v, hTO⟩, h1, h2⟩ := st
  exact ⟨kp z (by simp) _ hz, kp TI (by simp) _ hTI, ⟨u, v, kp TO (by simp) _ hTO⟩, ok.at h1 fun o q => kp i1 (by simp) o q, ok2.at h2 fun o q => kp i2 (by simp) o q⟩
 item := by
  intro X hP hw hK hc i pins s σ H E I hf st hg
  subst hP hw hK
  obtain ⟨hz, hTI, ⟨u, v, hTO⟩, h1, h2⟩ := st
  obtain ⟨xs, ys, x, y, q1, q2, e1, e2⟩ := hg
  obtain ⟨its, rv, p1⟩ := ok.get I q1
  obtain ⟨jts, rw', p2⟩ := ok2.get I q2
  obtain ⟨ux, hux, rx⟩ := rv.get e1
  obtain ⟨uy, huy, ry⟩ := rw'.get e2
  have l1 : i < its.toArray.size := by rw [List.size_toArray]; exact (List.getElem?_eq_some_iff.mp hux).1
  have l2 : i < jts.toArray.size := by rw [List.size_toArray]; exact (List.getElem?_eq_some_iff.mp huy).1
  have hh : X.A.in1.handled = none := by simp [I.ok.hd hc]
  refine nextZ_item (ok.dr hh i1 a ha its.toArray) (ok2.dr hh i2 b hb jts.toArray) D hz hTI hTO ⟨h1, p1⟩ ⟨h2, p2⟩ l1 l2 fun vx vy h' tk hvx hvy g1 g2 g3 g4 g5 g6 => ?_
  have ex : vx = ux := by
   have e : its[i]? = some vx := by simpa using hvx
   rw [hux] at e; exact (Option.some.inj e).symm
  have ey : vy = uy := by
   have e : jts[i]? = some vy := by simpa using hvy
   rw [huy] at e; exact (Option.some.inj e).symm
  subst ex ey
  refine ⟨_, rfl, wpAny_letOwnedTupleGo_zip (s := { s with heap := h', toks := tk }) g1 fun h2' hz2 hs2 => ?_⟩
  have hn : H s.heap.objs.size = none := I.hok.fresh (Nat.le_refl _)
  have lz : ∀ {c o}, s.heap.get? c = some o → s.heap.objs.size ≠ c := fun e => Nat.ne_of_gt (Heap.lt_size e)
  have li1 : s.heap.objs.size ≠ i1 := let ⟨o, e, _⟩ := ok.obj h1; lz e
  have li2 : s.heap.objs.size ≠ i2 := let ⟨o, e, _⟩ := ok2.obj h2; lz e
  have kp : ∀ c o, c ∉ [z, TI, TO, i1, i2] → s.heap.get? c = some o → h2'.get? c = some o := fun c o hc' q => by
   have c1 : c ≠ z := fun e => hc' (by simp [e])
   exact (hs2.2 c c1).trans (g6 c o c1 (fun e => hc' (by simp [e])) (fun e => hc' (by simp [e])) (fun e => hc' (by simp [e])) q)
  have hT2 : IsPair h2' s.heap.objs.size vx vy := (hs2.2 _ (lz hz)).trans g5
  have I2 : Inv X pins σ (upd H s.heap.objs.size (.tup [x, y])) { s with heap := h2', toks := tk } := I.turnLaid (fp := [z, TI, TO, i1, i2]) kp hf (Nat.le_refl _) ⟨by show 2 ≤ sizeLine; rw [sizeLine_eq]; decide, [vx, vy], .cons rx (.cons ry .nil), ⟨_, hT2, rfl, _, rfl⟩⟩
  have hTI2 : IsPair h2' TI (.ref i1) (.ref i2) := (hs2.2 _ D.Iz).trans (g6 _ _ D.Iz D.IO D.I1 D.I2 hTI)
  refine ⟨.ref s.heap.objs.size, _, I2, rfl, ⟨s.heap.objs.size, x, y, rfl, hn, rfl, fun zs hz' => by rw [ok.inj I hz' q1]; exact e1, fun zs hz' => by rw [ok2.inj I hz' q2]; exact e2⟩, ⟨hz2, hTI2, ⟨_, _, (hs2.2 _ D.Oz).trans g2⟩, ok.at g3.1 fun o q => (hs2.2 _ D.iz).trans q, ok2.at g4.1 fun o q => (hs2.2 _ D.jz).trans q⟩, fun c hc' => ?_⟩
  have hcz : c ≠ s.heap.objs.size := by
   simp only [List.mem_cons, List.not_mem_nil, or_false] at hc'
   rcases hc' with rfl | rfl | rfl | rfl | rfl
   ·exact (lz hz).symm
   ·exact (lz hTI).symm
   ·exact (lz hTO).symm
   ·exact li1.symm
   ·exact li2.symm
  rw [upd_ne hcz]; exact (hf c hc').1
 done := by
  intro X hP hw hK hc i pins s σ H E I hf st hg
  subst hP hw hK
  obtain ⟨hz, hTI, ⟨u, v, hTO⟩, h1, h2⟩ := st
  obtain ⟨xs, q1, hx⟩ := hg
  obtain ⟨its, rv, p1⟩ := ok.get I q1
  have hl := rv.length
  have hi : its.toArray.size = i := by rw [List.size_toArray, ← hl, hx]
  have hh : X.A.in1.handled = none := by simp [I.ok.hd hc]
  refine nextZ_end (ok.dr hh i1 a ha its.toArray) D hz hTI (by rw [hi]; exact ⟨h1, p1⟩) fun h' hk => ⟨rfl, ?_⟩
  exact I.turnedL (fp := [z, TI, TO, i1, i2]) (t' := s.toks) (fun c o hc' q => hk c o (fun e => hc' (by simp [e])) (fun e => hc' (by simp [e])) q) hf
 self := fun _ _ _ _ _ st h => wpAny_pyIter_zip st.1 h
noncomputable def iZipM (K : PySem.W.Frag) (ta : TA) : TI := fun σ H R => ta σ H fun vs H1 => ∃ a b xs ys, vs = [.ref a, .ref b] ∧ SqL K H1 a xs ∧ SqT K H1 b ys ∧ R (Itz (fun H xs => SqL K H a xs) fun H ys => SqT K H b ys) H1
section
variable {X : Cx}
theorem pi_zipM {a b : Expr} {ta : TA} {p pos : Pos} {es : List Expr} {x1} {tpos : Pos}  (hg : Gl X "zip") (hm : X.mg "zip" = none) (ha : PA X [a, b] ta) (hs : starEach [a, b] X.env = [(false, eval a X.env), (false, eval b X.env)] := by rfl) (hs2 : starEach [b] X.env = [(false, eval b X.env)] := by rfl) :
  PI X (.Tuple es x1 tpos) (.Call (.Name "zip" p) [a, b] [] pos) (iZipM X.K ta) := by
 intro pins s σ H R I h
 refine Call_ (ld_blt I hg hm boot_zip (PyProof.Rows.callWith_type1 (thn (ha pos pins s σ H _ I h) fun us s1 ⟨vs, H1, I1, r1, q1⟩ => ?_) (by rw [hs, hs2]) (by rw [hs2]; rfl)))
 obtain ⟨a', b', xs, ys, e, q1, q2, q⟩ := q1
 subst e
 obtain ⟨u, v, rfl, rx, ry⟩ := vals2 r1
 cases rx
 cases ry
 obtain ⟨its, rv, p1⟩ := kL_ok.get I1 q1
 obtain ⟨jts, rw', p2⟩ := kT_ok.get I1 q2
 have l1 := kL_ok.lt p1
 have l2 := kT_ok.lt p2
 refine call_zip_M p1 p2 fun h' a1 a2 a3 a4 a5 _ a7 => ?_
 refine wpAny_pyIter_zip (s := { s1 with heap := h' }) a1 ?_
 have I2 : Inv X pins σ H1 { s1 with heap := h' } := I1.kept (t' := s1.toks) a7
 have far := zipFar_new s1.heap.objs.size a' b' l1 l2
 refine ⟨s1.heap.objs.size + 4, [s1.heap.objs.size + 4, s1.heap.objs.size + 2, s1.heap.objs.size + 3, s1.heap.objs.size, s1.heap.objs.size + 1], _, _, H1, rfl, I2, turn_zipM kL_ok kT_ok _ _ _ _ _ a' b' far (Nat.ne_of_lt l1) (Nat.ne_of_lt (Nat.lt_succ_of_lt l2)), ⟨a1, a2, ⟨_, _, a3⟩, a4, a5⟩, fun c hc' => ?_, q⟩
 have hge : s1.heap.objs.size ≤ c := by
  simp only [List.mem_cons, List.not_mem_nil, or_false] at hc'
  rcases hc' with rfl | rfl | rfl | rfl | rfl
  ·exact Nat.le_add_right _ 4
  ·exact Nat.le_add_right _ 2
  ·exact Nat.le_add_right _ 3
  ·exact Nat.le_refl _
  ·exact Nat.le_succ _
 exact I1.fpOk hge (I1.hok.fresh hge)
end
end L2
namespace Wlk
open PySem PyProof.Rows Srt Cyc Grd
noncomputable def seamOf (A : List Pl) (c : Pl) : List Pl := (beside c).filter fun p => HT.lexLt [c.1, c.2] [p.1, p.2] && decide (p ∈ A)
noncomputable def seamsP (A : List Pl) : List WStep := (A.map fun c => (seamOf A c).map fun p => (c, p)).flatten
end Wlk
namespace M50
open PySem L2 PyProof.Rows Grd Wlk Cyc Srt
noncomputable abbrev sIsDealt : Stmt := top 49
noncomputable abbrev sChkDealt : Stmt := top 50
noncomputable abbrev sSeams : Stmt := top 51
noncomputable abbrev sFences : Stmt := top 52
structure DlA (H : Hp) (p : Addr) (g : Grid) (w : Nat) (ns : List Int) : Prop where
 G : Good g w
 ex : ∃ a n, H p = some (.tup [.ref a, .ref n]) ∧ GridAt H a g ∧ H n = some (.tup (ns.map V.int))
 len : ns.length = (gridF pos g).length
 num : ∀ x ∈ ns, 0 ≤ x ∧ x ≤ 3
noncomputable def spIsDealt : Sp := fun vs H Q _ => ∃ p g w ns, vs = [.ref p] ∧ DlA H p g w ns ∧ ∀ H', Same H H' → Q (.bl true) H'
noncomputable def spChkDealt : Sp := fun vs H Q _ => ∃ p g w ns, vs = [.ref p] ∧ DlA H p g w ns ∧ ∀ H', Same H H' → Q .non H'
noncomputable def spSeams : Sp := fun vs H Q _ => ∃ a g w, vs = [.ref a] ∧ GridAt H a g ∧ Good g w ∧ ∀ l qs H', H l = none → Same H H' → H' l = some (.lst ((qs : List Addr).map V.ref)) → StAt H' qs (seamsP (gridF pos g)) → Q (.ref l) H'
theorem seamOf_len (A : List Pl) (c : Pl) : (seamOf A c).length ≤ 4 := List.length_filter_le _ _
theorem seams_len (A : List Pl) : ∀ cs : List Pl, ((cs.map fun c => (seamOf A c).map fun p => (c, p)).flatten).length ≤ 4 * cs.length
 | [] => by simp
 | c :: cs => by
  have := seams_len A cs
  have := seamOf_len A c
  rw [List.map_cons, List.flatten_cons, List.length_append, List.length_cons, List.length_map]
  omega
section
variable {P : Program} {w : World} {K : PySem.W.Frag} {mg : Str → Option Value} {base : Heap}
noncomputable abbrev nDl : List Str := ["thing", "mead", "numbers", "many"]
theorem scIsDealt : FnScope nDl ["thing"] (defScope sIsDealt) := ⟨rfl, rfl, rfl, by decide +kernel, rfl, by decide +kernel, by decide +kernel⟩
theorem ndNu : (["number"] : List Str).Nodup := by decide +kernel
theorem ok_isDealt {f g1 g2 g3 g4 : Addr} {fd d1 d2 d3 d4 : FuncData} (F : Fun K "is_dealt" "is_dealt" sIsDealt f fd) (T : Txt mg) (T2 : Txt2 mg) (a1 : At P w K mg base CX0 1 "is_tuple_within" g1 d1 ["thing", "least", "most"] spTuple) (a2 : At P w K mg base CX0 4 "is_mead" g2 d2 ["thing"] spMead) (a3 : At P w K mg base CX0 6 "cells_of" g3 d3 ["mead"] (spGrid pos)) (a4 : At P w K mg base CX0 2 "is_number_within" g4 d4 ["thing", "least", "most"] spWithin) : FnOk P w K mg base CX0 7 f fd ["thing"] spIsDealt := by
 obtain ⟨t1, mH⟩ := T2.holders
 refine F.ok scIsDealt (fun vs H Q E h => ?_) (fun cdv A outer s H vs Q E hr h => ?_)
 ·obtain ⟨p, g, w', ns, rfl, _⟩ := h; rfl
 ·obtain ⟨p, g, w', ns, rfl, D, q⟩ := h
  have nd := scIsDealt.nd
  obtain ⟨a, n, hp, hA, hn⟩ := D.ex
  have G := D.G
  have h10 : ns.length ≤ 10 := by rw [D.len, len_cells]; exact G.c10
  have kn : KnA H (.ref n) := KnA.tup hn (by rw [List.length_map]; omega) fun x hx => by
   obtain ⟨i, _, rfl⟩ := List.mem_map.mp hx
   exact KnA.int _
  have kp : KnA H (.ref p) := KnA.tup hp (by simp) fun x hx => by
   simp only [List.mem_cons, List.not_mem_nil, or_false] at hx
   rcases hx with rfl | rfl
   ·exact hA.kn G
   ·exact kn
  refine ⟨_, pss_cons (ps_if (pt_not (pt_val (pe_call a1.ok (hr.mono (by decide)) rfl a1.nm a1.kp a1.bd .nil pass0 (pa_v (pv 0) (pa_c pe_int (pa_c pe_int pa_nil)))))) pss_never pss_nil) <|
   pss_cons (ps_asg (pv 0) (pg_tup rfl (pgs_cons (pg_name (i := 1) nd rfl (Or.inl rfl)) (pgs_cons (pg_name (i := 2) nd rfl (Or.inl rfl)) pgs_nil)))) <|
   pss_cons (ps_if (pt_not (pt_val (pe_call a2.ok (hr.mono (by decide)) rfl a2.nm a2.kp a2.bd .nil pass0 (pa_v (pv 1) pa_nil)))) pss_never pss_nil) <|
   pss_cons (ps_set (i := 3) nd rfl (Or.inl rfl) (pe_callB call_len_seq rfl T.len PySem.boot_len (pa_k (pe_call a3.ok hr rfl a3.nm a3.kp a3.bd .nil pass0 (pa_v (pv 1) pa_nil)) pa_nil))) <|
   pss_cons (ps_if (pt_not (pt_val (pe_call a1.ok (hr.mono (by decide)) rfl a1.nm a1.kp a1.bd .nil pass0 (pa_v (pv 2) (pa_v (pv 3) (pa_v (pv 3) pa_nil)))))) pss_never pss_nil) <|
   pss_one (ps_ret (pe_callB (call_all rfl) rfl T.all boot_all (pa_lc (pe_comp1 (defScope sIsDealt).names nDl ["number"] [] rfl (pi_tup (pv 2)) rfl rfl rfl (by decide +kernel)
    (fun Z => pg_name (i := 0) ndNu rfl (Or.inl rfl)) (fun Z => pts_nil) (fun Z => pe_call a4.ok (hr.mono (by decide)) rfl a4.nm a4.kp a4.bd .nil pass0 (pa_v (pv 0) (pa_c pe_int (pa_b (pe_op op_sub (pe_glob (v := .int 4) rfl mH ⟨_, rfl⟩) pe_int) pa_nil))))) pa_nil))), ?_⟩
  refine ⟨_, rfl, _, 2, 2, rfl, kp 1, _, rfl, ?_⟩
  have e1 : tupIn H 2 2 (.ref p) = true := by unfold tupIn; rw [tupOf_of hp]; rfl
  rw [e1]
  refine iteF ?_
  refine ⟨_, rfl, p, _, rfl, SqT.of hp, rfl, _, _, rfl, _, _, rfl, rfl, ?_⟩
  refine ⟨_, rfl, _, rfl, hA.kn G 3, fun H1 s1 => ⟨_, rfl, ?_⟩⟩
  rw [hA.good G]
  refine iteF ?_
  refine ⟨_, rfl, a, g, w', rfl, hA.same s1, G, fun H2 l ps hl s2 hl2 hP => ?_⟩
  have hlen : ps.length = (gridF pos g).length := Paired.length hP
  refine ⟨l, _, rfl, .inl (SqL.of hl2), ?_⟩
  have s12 := s1.trans s2
  have hn2 := s12 _ _ hn
  refine ⟨_, rfl, _, rfl, _, rfl, _, _, _, rfl, (kn 1).ext s12.ext, _, rfl, ?_⟩
  have e2 : tupIn H2 (((ps.map V.ref).length : Nat) : Int) (((ps.map V.ref).length : Nat) : Int) (.ref n) = true := by
   unfold tupIn
   rw [tupOf_of hn2]
   dsimp only
   rw [List.length_map, List.length_map, hlen, D.len, decide_eq_true (Int.le_refl _)]; rfl
  rw [e2]
  refine iteF ?_
  refine ⟨_, rfl, n, rfl, ⟨_, SqT.of hn2⟩, fun Z l3 hl3 => ?_⟩
  refine comp_map (fun x => .bl (numIn 0 3 x)) hn2 hl3 (by rw [List.length_map]; omega) (fun x H' Q' hm hs hq => ?_) fun σ H' hs hl' => ?_
  ·obtain ⟨i, _, rfl⟩ := List.mem_map.mp hm
   exact ⟨_, rfl, _, _, rfl, rfl, _, 0, 3, rfl, KnA.int _ 1, hq _ (Same.refl _)⟩
  ·refine ⟨l3, (ns.map V.int).map (numIn 0 3), rfl, SqL.of (by rw [hl', List.map_map, List.map_map, List.map_map]; rfl), ?_⟩
   have e3 : ((ns.map V.int).map (numIn 0 3)).all id = true := by
    rw [List.all_map, List.all_map]
    refine List.all_eq_true.mpr fun x hx => ?_
    have := D.num x hx
    show numIn 0 3 (.int x) = true
    simp [numIn, this]
   rw [e3]
   exact q H' (s12.trans hs)
theorem scChkDealt : FnScope ["dealt"] ["dealt"] (defScope sChkDealt) := ⟨rfl, rfl, rfl, by decide +kernel, rfl, by decide +kernel, by decide +kernel⟩
theorem ok_chkDealt {f g1 : Addr} {fd d1 : FuncData} (F : Fun K "check_dealt" "check_dealt" sChkDealt f fd) (a1 : At P w K mg base CX0 7 "is_dealt" g1 d1 ["thing"] spIsDealt) : FnOk P w K mg base CX0 8 f fd ["dealt"] spChkDealt := by
 refine F.ok scChkDealt (fun vs H Q E h => ?_) (fun cdv A outer s H vs Q E hr h => ?_)
 ·obtain ⟨p, g, w', ns, rfl, _⟩ := h; rfl
 ·obtain ⟨p, g, w', ns, rfl, D, q⟩ := h
  refine ⟨_, pss_one (ps_if (pt_not (pt_val (pe_call a1.ok hr rfl a1.nm a1.kp a1.bd .nil pass0 (pa_v (pv 0) pa_nil)))) pss_never pss_nil), ?_⟩
  exact ⟨_, rfl, p, g, w', ns, rfl, D, fun H' hs => ⟨_, rfl, iteF (q H' hs)⟩⟩
noncomputable abbrev nSe : List Str := ["mead", "cells"]
theorem scSeams : FnScope nSe ["mead"] (defScope sSeams) := ⟨rfl, rfl, rfl, by decide +kernel, rfl, by decide +kernel, by decide +kernel⟩
theorem ndSe : (["cell", "place", "cells"] : List Str).Nodup := by decide +kernel
theorem ok_seams {f g1 g2 : Addr} {fd d1 d2 : FuncData} (F : Fun K "seams_of" "seams_of" sSeams f fd) (a1 : At P w K mg base CX0 6 "cells_of" g1 d1 ["mead"] (spGrid pos)) (a2 : At P w K mg base CX0 1 "places_beside" g2 d2 ["place"] spBeside) : FnOk P w K mg base CX0 7 f fd ["mead"] spSeams := by
 refine F.ok scSeams (fun vs H Q E h => ?_) (fun cdv A outer s H vs Q E hr h => ?_)
 ·obtain ⟨a, g, w', rfl, _⟩ := h; rfl
 ·obtain ⟨a, g, w', rfl, hA, G, q⟩ := h
  have nd := scSeams.nd
  refine ⟨_, pss_cons (ps_set (i := 1) nd rfl (Or.inr rfl) (pe_call a1.ok hr rfl a1.nm a1.kp a1.bd .nil pass0 (pa_v (pv 0) pa_nil))) <|
   pss_one (ps_ret (pe_comp2 (defScope sSeams).names nSe ["cell", "place"] [("cells", 1)] rfl (pi_list (pv 1)) rfl rfl rfl (by decide +kernel)
    (fun Z => pg_name (i := 0) ndSe rfl (Or.inl rfl)) (fun Z => pts_nil)
    (fun Z => pi_list (pe_call a2.ok (hr.mono (by decide)) rfl a2.nm a2.kp a2.bd .nil pass0 (pa_v (pv 0) pa_nil))) (fun Z => pg_name (i := 1) ndSe rfl (Or.inl rfl))
    (fun Z => pts_one (PW.pt (pw_and (pt_cmpR (op_gtT (Nat.lt_of_succ_lt (hu_of hr))) (pv 1) (pv 0) (nomark _)) (pw_and1 (pt_cmpR (op_inD 1 (hu1_of hr)) (pv 1) (pv 2) rfl))))) (fun Z => pe_tup (pa_v (pv 0) (pa_v (pv 1) pa_nil))))), ?_⟩
  refine ⟨_, rfl, a, g, w', rfl, hA, G, fun H1 lc ps hlc s1 hlc1 hP => ?_⟩
  generalize hAA : gridF pos g = AA at *
  have hlen : ps.length = AA.length := Paired.length hP
  have h10 : AA.length ≤ 10 := by rw [← hAA, len_cells]; exact G.c10
  refine ⟨_, rfl, lc, rfl, ⟨_, SqL.of hlc1⟩, fun Z l hl => ?_⟩
  refine for_list (K := K) (a := lc) (xs := ps.map V.ref) (fun i σ H' => (∃ o0 o1, σ = [o0, o1, some (.ref lc)]) ∧ Same H1 H' ∧ ∃ qs, H' l = some (.lst ((qs : List Addr).map V.ref)) ∧ StAt H' qs (((AA.take i).map fun c => (seamOf AA c).map fun p => (c, p)).flatten)) ⟨⟨_, _, rfl⟩, same_upd hl, [], by rw [upd_same]; rfl, .nil⟩ (fun i σ H' _ h => SqL.of (h.2.1 _ _ hlc1)) ?_ ?_
  ·rintro i x σ H' hx ⟨⟨o0, o1, rfl⟩, hs, qs, hl', hS⟩
   obtain ⟨p, hp, rfl⟩ := getR hx
   obtain ⟨c, hc, he⟩ := hP.at hp
   have hi : i < ps.length := (List.getElem?_eq_some_iff.mp hp).1
   have hql : qs.length ≤ 4 * 10 := by
    have h1 : qs.length = _ := Paired.length hS
    have h2 := seams_len AA (AA.take i)
    rw [List.length_take] at h2
    omega
   refine body_name ?_
   refine ⟨_, rfl, p, c, rfl, hs _ _ he, fun l2 qs2 H2 hf2 s2 hl2 hB => ?_⟩
   refine ⟨l2, rfl, ⟨_, SqL.of hl2⟩, ?_⟩
   have hne : l2 ≠ l := fun z => by rw [z, hl'] at hf2; cases hf2
   have hl2' := s2 _ _ hl'
   have hS2 := hS.same s2
   refine for_list (K := K) (a := l2) (xs := qs2.map V.ref) (fun j σ H3 => (∃ o1, σ = [some (.ref p), o1, some (.ref lc)]) ∧ Same H1 H3 ∧ H3 l2 = some (.lst (qs2.map V.ref)) ∧ PlAt H3 qs2 (beside c) ∧ ∃ qs3, H3 l = some (.lst ((qs3 : List Addr).map V.ref)) ∧ StAt H3 qs3 (((AA.take i).map fun c => (seamOf AA c).map fun p => (c, p)).flatten ++ (((beside c).take j).filter fun p => HT.lexLt [c.1, c.2] [p.1, p.2] && decide (p ∈ AA)).map fun p => (c, p)) ∧ qs3.length ≤ 40 + j)
    ⟨⟨_, rfl⟩, hs.trans s2, hl2, hB, qs, hl2', by rw [List.take_zero, List.filter_nil, List.map_nil, List.append_nil]; exact hS2, by omega⟩ (fun j σ H3 _ h => SqL.of h.2.2.1) ?_ ?_
   ·rintro j x σ H3 hx ⟨⟨o1, rfl⟩, hs3, hl3, hB3, qs3, hq3, hS3, hn3⟩
    obtain ⟨q2, hq2, rfl⟩ := getR hx
    obtain ⟨b, hb, hbe⟩ := hB3.at hq2
    have hj : j < 4 := (List.getElem?_eq_some_iff.mp hb).1
    have et : ((beside c).take (j + 1)).filter (fun p => HT.lexLt [c.1, c.2] [p.1, p.2] && decide (p ∈ AA)) = ((beside c).take j).filter (fun p => HT.lexLt [c.1, c.2] [p.1, p.2] && decide (p ∈ AA)) ++ (if (HT.lexLt [c.1, c.2] [b.1, b.2] && decide (b ∈ AA)) = true then [b] else []) := by
     rw [List.take_succ, hb, List.filter_append]
     congr 1
     cases e : (HT.lexLt [c.1, c.2] [b.1, b.2] && decide (b ∈ AA))
     ·simp [e]
     ·simp [e]
    rw [et]
    have hc3 := hs3 _ _ he
    have skip : (HT.lexLt [c.1, c.2] [b.1, b.2] && decide (b ∈ AA)) = false → ((∃ o1, [some (V.ref p), some (V.ref q2), some (V.ref lc)] = [some (.ref p), o1, some (.ref lc)]) ∧ Same H1 H3 ∧ H3 l2 = some (.lst (qs2.map V.ref)) ∧ PlAt H3 qs2 (beside c) ∧ ∃ qs3, H3 l = some (.lst ((qs3 : List Addr).map V.ref)) ∧ StAt H3 qs3 (((AA.take i).map fun c => (seamOf AA c).map fun p => (c, p)).flatten ++ (((beside c).take j).filter (fun p => HT.lexLt [c.1, c.2] [p.1, p.2] && decide (p ∈ AA)) ++ (if (HT.lexLt [c.1, c.2] [b.1, b.2] && decide (b ∈ AA)) = true then [b] else [])).map fun p => (c, p)) ∧ qs3.length ≤ 40 + (j + 1)) := fun z => by
     refine ⟨⟨_, rfl⟩, hs3, hl3, hB3, qs3, hq3, ?_, by omega⟩
     rw [if_neg (by rw [z]; decide), List.append_nil]; exact hS3
    show tBodyC _ _ _ [some (.ref p), some (.ref q2), some (.ref lc)] H3
    refine ⟨_, rfl, _, rfl, q2, p, [b.1, b.2], [c.1, c.2], rfl, rfl, SqT.of hbe, SqT.of hc3, _, rfl, iteB (fun z1 => ?_) fun z1 => ?_⟩
    ·refine ⟨_, rfl, _, rfl, lc, _, _, rfl, .inr (hs3 _ _ hlc1), e3Pl hbe (hP.same hs3), _, rfl, ?_⟩
     rw [any_eqP]
     refine iteB (fun z2' => ?_) fun z2' => ?_
     ·have z2 : b ∈ AA := by simpa using z2'
      have zz : (HT.lexLt [c.1, c.2] [b.1, b.2] && decide (b ∈ AA)) = true := by rw [z1, decide_eq_true z2]; rfl
      refine ⟨_, rfl, _, rfl, by show 2 ≤ sizeLine; decide, fun t ht => ?_⟩
      have s4 := same_upd (o := .tup [.ref p, .ref q2]) ht
      have hq4 := s4 _ _ hq3
      have hst : StA (upd H3 t (.tup [.ref p, .ref q2])) t (c, b) := ⟨p, q2, upd_same, s4 _ _ hc3, s4 _ _ hbe⟩
      refine ⟨_, hq4, small1000 (by rw [List.length_map]; omega), ⟨_, rfl⟩, fun b' u e' => ?_, ?_, ?_, qs3 ++ [t], ?_, ?_, ?_⟩
      ·rw [upd_ne (ne_of_none e' hl)]; exact s4 _ _ (hs3 _ _ e')
      ·rw [upd_ne hne]; exact s4 _ _ hl3
      ·exact Paired.mapP hB3 fun _ _ z => PlA.put hq4 (s4 _ _ z)
      ·rw [upd_same, List.map_append]; rfl
      ·rw [if_pos zz, List.map_append, ← List.append_assoc]
       exact ((hS3.same s4).put hq4).snoc (hst.put hq4)
      ·rw [List.length_append]; show _ + 1 ≤ _; omega
     ·have z2 : b ∉ AA := by simpa using z2'
      exact skip (by rw [decide_eq_false z2, Bool.and_false])
    ·exact skip (by rw [z1]; rfl)
   ·rintro σ H3 ⟨⟨o1', rfl⟩, hs3, _, _, qs3, hq3, hS3, _⟩
    have hq4 : qs2.length = 4 := Paired.length hB
    rw [List.length_map, hq4] at hS3
    refine ⟨⟨_, _, rfl⟩, hs3, qs3, hq3, ?_⟩
    rw [List.take_succ, hc, List.map_append, List.flatten_append]
    have eo : ((Option.toList (some c)).map fun c => (seamOf AA c).map fun p => (c, p)).flatten = (seamOf AA c).map fun p => (c, p) := by simp
    rw [eo]
    exact hS3
  ·rintro σ H' ⟨_, hs, qs, hl', hS⟩
   rw [List.length_map, hlen, List.take_of_length_le (Nat.le_refl _)] at hS
   exact q l qs H' (s1.free hl) (s1.trans hs) hl' hS
end
end M50
namespace Wlk
open PySem PyProof.Rows Srt Cyc Grd L2
noncomputable def nuOf (A : List Pl) (ns : List Int) (c : Pl) : Int := (((A.zip ns).find? fun z => decide (z.1 = c)).map (·.2)).getD 0
noncomputable def keyP (c : Pl) : List Key := [.inl c.1, .inl c.2]
theorem keyP_inj {c d : Pl} (h : keyP c = keyP d) : c = d := by
 obtain ⟨a, b⟩ := c
 obtain ⟨a', b'⟩ := d
 unfold keyP at h
 simp only [List.cons.injEq, Sum.inl.injEq, and_true] at h
 rw [h.1, h.2]
noncomputable def kvP (l : List (Pl × Int)) : List (List Key × V) := l.map fun z => (keyP z.1, V.int z.2)
theorem valV_kvP (c : Pl) : ∀ l : List (Pl × Int), valV (kvP l) (keyP c) = (l.find? fun z => decide (z.1 = c)).map fun z => V.int z.2
 | [] => rfl
 | z :: l => by
  have ih := valV_kvP c l
  by_cases e : z.1 = c
  ·rw [List.find?_cons_of_pos (by simpa using e)]
   exact valV_pos (show keyP z.1 = keyP c by rw [e])
  ·rw [List.find?_cons_of_neg (by simpa using e), ← ih]
   exact valV_neg (fun y => e (keyP_inj y))
theorem valV_none {l : List (Pl × Int)} {c : Pl} (h : ∀ z ∈ l, z.1 ≠ c) : valV (kvP l) (keyP c) = none := by
 rw [valV_kvP, List.find?_eq_none.mpr fun z hz => by simpa using h z hz]; rfl
theorem valV_nu {A : List Pl} {ns : List Int} (hl : ns.length = A.length) {c : Pl} (hc : c ∈ A) : valV (kvP (A.zip ns)) (keyP c) = some (V.int (nuOf A ns c)) := by
 rw [valV_kvP]
 obtain ⟨i, hi, e⟩ := List.mem_iff_getElem.mp hc
 have hz : (c, ns[i]'(by omega)) ∈ A.zip ns := List.mem_iff_getElem.mpr ⟨i, by rw [List.length_zip]; omega, by rw [List.getElem_zip, e]⟩
 have hs : ((A.zip ns).find? fun z => decide (z.1 = c)).isSome = true := List.find?_isSome.mpr ⟨_, hz, by simp⟩
 obtain ⟨z, ez⟩ := Option.isSome_iff_exists.mp hs
 unfold nuOf
 rw [ez]; rfl
theorem seam_is (A : List Pl) (c : Pl) : seamOf A c = (if (c.1, c.2 + 1) ∈ A then [(c.1, c.2 + 1)] else []) ++ (if (c.1 + 1, c.2) ∈ A then [(c.1 + 1, c.2)] else []) := by
 obtain ⟨a, b⟩ := c
 have l1 : HT.lexLt [a, b] [a - 1, b] = false := by
  rw [HT.lexLt_cons, if_neg (by omega)]; exact decide_eq_false (by omega)
 have l2 : HT.lexLt [a, b] [a, b - 1] = false := by
  rw [HT.lexLt_cons, if_pos rfl, HT.lexLt_cons, if_neg (by omega)]; exact decide_eq_false (by omega)
 have l3 : HT.lexLt [a, b] [a, b + 1] = true := by
  rw [HT.lexLt_cons, if_pos rfl, HT.lexLt_cons, if_neg (by omega)]; exact decide_eq_true (by omega)
 have l4 : HT.lexLt [a, b] [a + 1, b] = true := by
  rw [HT.lexLt_cons, if_neg (by omega)]; exact decide_eq_true (by omega)
 unfold seamOf beside
 dsimp only
 by_cases u1 : (a, b + 1) ∈ A <;> by_cases u2 : (a + 1, b) ∈ A <;> simp [List.filter_cons, l1, l2, l3, l4, u1, u2]
theorem fen1 (nu : Pl → Int) (c x : Pl) (h : Prop) [Decidable h] : (((((if h then [x] else []).map fun p => (c, p)).filter fun s : WStep => !decide (nu s.1 = nu s.2)).length : Nat) : Int) = if h then (if nu x ≠ nu c then 1 else 0) else 0 := by
 by_cases u : h
 ·rw [if_pos u, if_pos u]
  by_cases v : nu c = nu x
  ·rw [if_neg (fun z => z v.symm)]
   simp [v]
  ·rw [if_pos (fun z => v z.symm)]
   simp [v]
 ·rw [if_neg u, if_neg u]; rfl
theorem fen_cell (A : List Pl) (nu : Pl → Int) (c : Pl) : (((((seamOf A c).map fun p => (c, p)).filter fun s : WStep => !decide (nu s.1 = nu s.2)).length : Nat) : Int) = nFen A nu c := by
 rw [seam_is, List.map_append, List.filter_append, List.length_append]
 have h1 := fen1 nu c (c.1, c.2 + 1) ((c.1, c.2 + 1) ∈ A)
 have h2 := fen1 nu c (c.1 + 1, c.2) ((c.1 + 1, c.2) ∈ A)
 unfold nFen
 rw [← h1, ← h2]
 omega
theorem fen_count (A : List Pl) (nu : Pl → Int) : ((((seamsP A).filter fun s => !decide (nu s.1 = nu s.2)).length : Nat) : Int) = (A.map (nFen A nu)).sum := by
 unfold seamsP
 rw [flen]
 have key : ∀ l : List Pl, (((l.map fun c => (((seamOf A c).map fun p => (c, p)).filter fun s : WStep => !decide (nu s.1 = nu s.2)).length).sum : Nat) : Int) = (l.map (nFen A nu)).sum := fun l => by
  induction l with
  | nil => rfl
  | cons a l ih => rw [List.map_cons, List.sum_cons, List.map_cons, List.sum_cons, ← ih, ← fen_cell A nu a]; omega
 exact key A
theorem seam_mem {A : List Pl} {s : WStep} (h : s ∈ seamsP A) : s.1 ∈ A ∧ s.2 ∈ A := by
 unfold seamsP at h
 obtain ⟨l, hl, hs⟩ := List.mem_flatten.mp h
 obtain ⟨c, hc, rfl⟩ := List.mem_map.mp hl
 obtain ⟨p, hp, rfl⟩ := List.mem_map.mp hs
 refine ⟨hc, ?_⟩
 have := (List.mem_filter.mp hp).2
 rw [Bool.and_eq_true] at this
 exact of_decide_eq_true this.2
end Wlk
namespace M50
open PySem L2 PyProof.Rows Grd Wlk Cyc Srt
noncomputable def spFences : Sp := fun vs H Q _ => ∃ p g w ns, vs = [.ref p] ∧ DlA H p g w ns ∧ ∀ l qs H', H l = none → Same H H' → H' l = some (.lst ((qs : List Addr).map V.ref)) → (qs.length : Int) = ((gridF pos g).map (nFen (gridF pos g) (nuOf (gridF pos g) ns))).sum → Q (.ref l) H'
section
variable {P : Program} {w : World} {K : PySem.W.Frag} {mg : Str → Option Value} {base : Heap}
noncomputable abbrev nFe : List Str := ["dealt", "mead", "numbers", "number_at"]
theorem scFences : FnScope nFe ["dealt"] (defScope sFences) := ⟨rfl, rfl, rfl, by decide +kernel, rfl, by decide +kernel, by decide +kernel⟩
theorem ndFe : (["cell", "number"] : List Str).Nodup := by decide +kernel
theorem ndFe2 : (["one", "other", "number_at"] : List Str).Nodup := by decide +kernel
theorem ok_fences {f g1 g2 g3 : Addr} {fd d1 d2 d3 : FuncData} (F : Fun K "fences_of" "fences_of" sFences f fd) (T2 : Txt2 mg) (a1 : At P w K mg base CX0 8 "check_dealt" g1 d1 ["dealt"] spChkDealt) (a2 : At P w K mg base CX0 6 "cells_of" g2 d2 ["mead"] (spGrid pos)) (a3 : At P w K mg base CX0 7 "seams_of" g3 d3 ["mead"] spSeams) : FnOk P w K mg base CX0 9 f fd ["dealt"] spFences := by
 refine F.ok scFences (fun vs H Q E h => ?_) (fun cdv A outer s H vs Q E hr h => ?_)
 ·obtain ⟨p, g, w', ns, rfl, _⟩ := h; rfl
 ·obtain ⟨p, g, w', ns, rfl, D, q⟩ := h
  have nd := scFences.nd
  refine ⟨_, pss_cons (ps_expr (pe_call a1.ok hr rfl a1.nm a1.kp a1.bd .nil pass0 (pa_v (pv 0) pa_nil))) <|
   pss_cons (ps_asg (pv 0) (pg_tup rfl (pgs_cons (pg_name (i := 1) nd rfl (Or.inl rfl)) (pgs_cons (pg_name (i := 2) nd rfl (Or.inl rfl)) pgs_nil)))) <|
   pss_cons (ps_set (i := 3) nd rfl (Or.inr rfl) (pe_compD (defScope sFences).names nFe ["cell", "number"] [] rfl (pi_zipM rfl T2.zip (pa_k (pe_call a2.ok (hr.mono (by decide)) rfl a2.nm a2.kp a2.bd .nil pass0 (pa_v (pv 1) pa_nil)) (pa_v (pv 2) pa_nil))) rfl rfl rfl (by decide +kernel)
    (fun Z => pg_tup rfl (pgs_cons (pg_name (i := 0) ndFe rfl (Or.inl rfl)) (pgs_cons (pg_name (i := 1) ndFe rfl (Or.inl rfl)) pgs_nil))) (fun Z => pts_nil) (Nat.lt_of_succ_lt (hu_of hr)) (fun Z => pv 0) (fun Z => pv 1))) <|
   pss_one (ps_ret (pe_comp1 (defScope sFences).names nFe ["one", "other"] [("number_at", 3)] rfl (pi_list (pe_call a3.ok (hr.mono (by decide)) rfl a3.nm a3.kp a3.bd .nil pass0 (pa_v (pv 1) pa_nil))) rfl rfl rfl (by decide +kernel)
    (fun Z => pg_tup rfl (pgs_cons (pg_name (i := 0) ndFe2 rfl (Or.inl rfl)) (pgs_cons (pg_name (i := 1) ndFe2 rfl (Or.inl rfl)) pgs_nil)))
    (fun Z => pts_one (pt_cmpR op_ne (pe_dget (hu_of hr) (pv 2) (pv 0) (fun _ _ => rfl)) (pe_dget (hu_of hr) (pv 2) (pv 1) (fun _ _ => rfl)) (nomark _))) (fun Z => pe_tup (pa_v (pv 0) (pa_v (pv 1) pa_nil))))), ?_⟩
  obtain ⟨a, n, hp, hA, hn⟩ := D.ex
  have G := D.G
  have hlA := D.len
  refine ⟨_, rfl, p, g, w', ns, rfl, D, fun H1 s1 => ?_⟩
  refine ⟨_, rfl, p, _, rfl, SqT.of (s1 _ _ hp), rfl, _, _, rfl, _, _, rfl, rfl, ?_⟩
  refine ⟨_, rfl, a, g, w', rfl, hA.same s1, G, fun H2 lc ps hlc s2 hlc2 hP => ?_⟩
  have hnd := up_nd (gridF_up pos g)
  have h10 : (gridF pos g).length ≤ 10 := by rw [len_cells]; exact G.c10
  generalize hAA : gridF pos g = AA at *
  have hpl : ps.length = AA.length := Paired.length hP
  have s12 := s1.trans s2
  have hn2 := s12 _ _ hn
  refine ⟨_, rfl, lc, n, _, _, rfl, SqL.of hlc2, SqT.of hn2, fun Z ld hld => ?_⟩
  refine for_zip (xs := ps.map V.ref) (ys := ns.map V.int) (by rw [List.length_map, List.length_map]; omega)
   (fun j σ H' => σ.length = 2 ∧ Same H2 H' ∧ H' ld = some (.dT (kvP ((AA.zip ns).take j))))
   ⟨rfl, same_upd hld, by rw [upd_same]; rfl⟩ (fun j σ H' h => ⟨SqL.of (h.2.1 _ _ hlc2), SqT.of (h.2.1 _ _ hn2)⟩) ?_ ?_
  ·rintro j x y pz σ H' hx hy ⟨hσ, hs, hld'⟩ hpz
   match σ, hσ with
   | [o0, o1], _ =>
   obtain ⟨b, hb, rfl⟩ := getR hx
   obtain ⟨c, hc, he⟩ := hP.at hb
   obtain ⟨m, hm, rfl⟩ : ∃ m, ns[j]? = some m ∧ V.int m = y := by
    rw [List.getElem?_map] at hy
    cases e : ns[j]? with
    | none => rw [e] at hy; cases hy
    | some m => rw [e] at hy; exact ⟨m, rfl, Option.some.inj hy⟩
   have s4 := same_upd (o := .tup [.ref b, .int m]) hpz
   have ez : (AA.zip ns)[j]? = some (c, m) := List.getElem?_zip_eq_some.mpr ⟨hc, hm⟩
   have hjl : j < AA.length := (List.getElem?_eq_some_iff.mp hc).1
   refine ⟨pz, _, rfl, SqT.of upd_same, rfl, _, _, rfl, _, _, rfl, rfl, ?_⟩
   refine body_all ?_
   refine ⟨_, rfl, _, rfl, b, _, keyP c, rfl, s4 _ _ hld', s4 _ _ (hs _ _ he), small1000 (by unfold kvP; rw [List.length_map, List.length_take, List.length_zip]; omega), ?_⟩
   have hno : valV (kvP ((AA.zip ns).take j)) (keyP c) = none := valV_none fun z hz e => by
    obtain ⟨i, hi, ei⟩ := List.mem_iff_getElem.mp hz
    rw [List.length_take, List.length_zip] at hi
    have hij : i < j := by omega
    have e1 : AA[i]'(by omega) = c := by
     rw [List.getElem_take, List.getElem_zip] at ei
     rw [← e, ← ei]
    have e2 : AA[j] = c := (List.getElem?_eq_some_iff.mp hc).2
    exact List.pairwise_iff_getElem.mp (List.nodup_iff_pairwise_ne.mp hnd) i j (by omega) hjl hij (e1.trans e2.symm)
   refine ⟨rfl, fun b' u e' => ?_, ?_⟩
   ·rw [upd_ne (ne_of_none e' hld)]; exact s4 _ _ (hs _ _ e')
   ·rw [upd_same, putK_new _ hno, List.take_succ, ez]
    unfold kvP
    rw [List.map_append]; rfl
  ·rintro σ H' ⟨_, hs, hld'⟩
   have el : (ps.map V.ref).length = (AA.zip ns).length := by rw [List.length_map, List.length_zip]; omega
   rw [el, List.take_of_length_le (Nat.le_refl _)] at hld'
   refine ⟨_, rfl, a, g, w', rfl, hA.same (s12.trans hs), G, fun ls qs H3 hls s3 hls3 hS => ?_⟩
   rw [hAA] at hS
   have hld3 := s3 _ _ hld'
   have hql : qs.length ≤ 40 := by
    have h1 : qs.length = _ := Paired.length hS
    have h2 := seams_len AA AA
    unfold seamsP at h1
    omega
   refine ⟨ls, rfl, ⟨_, SqL.of hls3⟩, fun Z lf hlf => ?_⟩
   refine for_list (K := K) (a := ls) (xs := qs.map V.ref) (fun j σ H' => (∃ o0 o1, σ = [o0, o1, some (.ref ld)]) ∧ Same H3 H' ∧ ∃ fs, H' lf = some (.lst ((fs : List Addr).map V.ref)) ∧ fs.length = (((seamsP AA).take j).filter fun s => !decide (nuOf AA ns s.1 = nuOf AA ns s.2)).length) ⟨⟨_, _, rfl⟩, same_upd hlf, [], by rw [upd_same]; rfl, rfl⟩ (fun j σ H' _ h => SqL.of (h.2.1 _ _ hls3)) ?_ ?_
   ·rintro j x σ H4 hx ⟨⟨o0, o1, rfl⟩, hs4, fs, hf, hfl⟩
    obtain ⟨qa, hqa, rfl⟩ := getR hx
    obtain ⟨st, hst, b1, b2, e1, e2, e3⟩ := hS.at hqa
    have hjq : j < qs.length := (List.getElem?_eq_some_iff.mp hqa).1
    obtain ⟨m1, m2⟩ := seam_mem (List.mem_of_getElem? hst)
    have et : ((seamsP AA).take (j + 1)).filter (fun s => !decide (nuOf AA ns s.1 = nuOf AA ns s.2)) = ((seamsP AA).take j).filter (fun s => !decide (nuOf AA ns s.1 = nuOf AA ns s.2)) ++ (if (!decide (nuOf AA ns st.1 = nuOf AA ns st.2)) = true then [st] else []) := by
     rw [List.take_succ, hst, List.filter_append]
     congr 1
     cases e : (!decide (nuOf AA ns st.1 = nuOf AA ns st.2))
     ·simp [e]
     ·simp [e]
    rw [et]
    have hfl' : fs.length ≤ j := by
     rw [hfl]
     refine Nat.le_trans (List.length_filter_le _ _) ?_
     rw [List.length_take]; omega
    refine ⟨qa, _, rfl, SqT.of (hs4 _ _ e1), rfl, _, _, rfl, _, _, rfl, rfl, ?_⟩
    have d1 : DGet H4 ld (.ref b1) (some (V.int (nuOf AA ns st.1))) := by rw [← valV_nu hlA m1]; exact DGet.t (hs4 _ _ hld3) (hs4 _ _ e2)
    have d2 : DGet H4 ld (.ref b2) (some (V.int (nuOf AA ns st.2))) := by rw [← valV_nu hlA m2]; exact DGet.t (hs4 _ _ hld3) (hs4 _ _ e3)
    refine ⟨_, rfl, _, rfl, ld, _, rfl, d1, _, rfl, _, rfl, ld, _, rfl, d2, rfl, _, rfl, ite2n (fun z => ?_) fun z => ?_⟩
    ·have z' : (!decide (nuOf AA ns st.1 = nuOf AA ns st.2)) = true := by rw [decide_eq_false fun y => z (by rw [y])]; rfl
     refine ⟨_, rfl, _, rfl, by show 2 ≤ sizeLine; decide, fun t ht => ?_⟩
     have s5 := same_upd (o := .tup [.ref b1, .ref b2]) ht
     refine ⟨_, s5 _ _ hf, small1000 (by rw [List.length_map]; omega), ⟨_, _, rfl⟩, fun b' u e' => ?_, fs ++ [t], ?_, ?_⟩
     ·rw [upd_ne (ne_of_none e' hlf)]; exact s5 _ _ (hs4 _ _ e')
     ·rw [upd_same, List.map_append]; rfl
     ·rw [if_pos z', List.length_append, List.length_append, hfl]; rfl
    ·have z' : ¬ (!decide (nuOf AA ns st.1 = nuOf AA ns st.2)) = true := by rw [decide_eq_true (V.int.inj z)]; decide
     rw [if_neg z', List.append_nil]
     exact ⟨⟨_, _, rfl⟩, hs4, fs, hf, hfl⟩
   ·rintro σ H4 ⟨_, hs4, fs, hf, hfl⟩
    have hq1 : qs.length = _ := Paired.length hS
    rw [List.length_map, hq1, List.take_of_length_le (Nat.le_refl _)] at hfl
    have sA := ((s12.trans hs).trans s3)
    refine q lf fs H4 (sA.free hlf) (sA.trans hs4) hf ?_
    rw [hfl]
    exact fen_count AA _
end
end M50
namespace PySem
open Sem (wp)
noncomputable abbrev K4 := (Int × Int) × (Int × Int)
section
variable {prog : Program} {w : World} {K : Type} [DecidableEq K] (knd : KeyKind prog w K) (f : Int × Int → List K)
noncomputable def IsK4 (h : Heap) (k : K4) (a : Addr) : Prop := ∃ o items n b c, h.get? a = some o ∧ o.cls = .type "tuple" ∧ o.data = .seq items n ∧ items.toList = [.ref b, .ref c] ∧ IsTupleKey knd h (f k.1) b ∧ IsTupleKey knd h (f k.2) c
noncomputable def hashK4 (k : K4) : Int := reduceHash (Builtin.Tuple.tupleHashOf [tupleKeyHash knd (f k.1), tupleKeyHash knd (f k.2)])
variable {knd} {f}
theorem IsK4.typeIs {s : Shared} {k : K4} {a : Addr} (x : IsK4 knd f s.heap k a) : s.TypeIs (.ref a) "tuple" := let ⟨o, _, _, _, _, ho, hc, _⟩ := x; ⟨o, ho, hc⟩
theorem IsK4.inj {h : Heap} {a : Addr} {x y : K4} (hf : ∀ c d, f c = f d → c = d) (hx : IsK4 knd f h x a) (hy : IsK4 knd f h y a) : x = y := by
 obtain ⟨o, items, n, b, c, ho, _, hd, hi, k1, k2⟩ := hx
 obtain ⟨o', items', n', b', c', ho', _, hd', hi', k1', k2'⟩ := hy
 obtain rfl : o = o' := Option.some.inj (ho.symm.trans ho')
 rw [hd] at hd'
 injection hd' with h1 _
 subst h1
 rw [hi] at hi'
 simp only [List.cons.injEq, Value.ref.injEq, and_true] at hi'
 obtain ⟨rfl, rfl⟩ := hi'
 exact Prod.ext (hf _ _ (k1.inj k1')) (hf _ _ (k2.inj k2'))
theorem IsK4.keeps {h h' : Heap} {k : K4} {a d : Addr} {o : Obj} {es ep} (x : IsK4 knd f h k a) (ho : h.get? d = some o) (hd : o.data = .dict es ep) (hs : Heap.SameBut d h h') : IsK4 knd f h' k a := by
 obtain ⟨o', items, n, b, c, ho', hc, hd', hi, k1, k2⟩ := x
 have hne : a ≠ d := by
  rintro rfl
  obtain rfl : o' = o := Option.some.inj (ho'.symm.trans ho)
  rw [hd] at hd'; exact nomatch hd'
 exact ⟨o', items, n, b, c, (hs.2 a hne).trans ho', hc, hd', hi, k1.keeps ho hd hs, k2.keeps ho hd hs⟩
variable {A : Around} {E : Value → Shared → Prop} {s : Shared}
theorem pyHash_K4 {k : K4} {a : Addr} {Q : Int → Shared → Prop} (hu : A.units + 1 < cLine) (hk : IsK4 knd f s.heap k a) (h : Q (hashK4 knd f k) { s with toks := s.toks + ((f k.1).length + (f k.2).length + 3) }) :
  wpAny (model prog w) A (pyHash (.ref a)) Q E s := by
 have hT := hk.typeIs
 obtain ⟨o, items, n, b, c, ho, _, hd, hi, k1, k2⟩ := hk
 have hu0 : A.units < cLine := Nat.lt_of_succ_lt hu
 unfold pyHash
 first | unfold pyHashByItsType | skip
 first | refine wpAny_bind (wpAny_cRoomFor_or (.inr hu0) ?_) | skip
 refine wpAny_bind (wpAny_specialOf hT F.slot_tuple_hash.lookup ?_)
 show wpAny _ _ (if (some (Value.builtin "tuple.__hash__") == some Value.none) = true then _ else _) Q E s
 rw [if_neg (by rw [beq_builtin_none]; exact Bool.false_ne_true)]
 refine wpAny_bind (wpAny_specialOf hT F.slot_tuple_hash.lookup ?_)
 show wpAny _ _ (callSpecialIfBoundUnlessNone? (.ref a) "__hash__" _ >>= _) Q E s
 refine wpAny_bind (wpAny_callSpecialIfBoundUnlessNone?_slot hT F.slot_tuple_hash (wpAny_call_entry F.slot_tuple_hash hT F.entry_tuple_hash ?_ (F.args_tuple_hash_1 _)))
 show wpAny _ _ (Builtin.Tuple.tupleItemsOf (.ref a) >>= _) _ _ s
 refine wpAny_bind (wpAny_tupleItemsOf ho hd ?_)
 refine wpAny_bind ?_
 rw [← Array.forIn_toList, hi]
 refine wpAny_forIn_list _
  (fun rest (g : Array Int) s' => (rest = [.ref b, .ref c] ∧ g.toList = [] ∧ s' = s) ∨ (rest = [.ref c] ∧ g.toList = [tupleKeyHash knd (f k.1)] ∧ s' = { s with toks := s.toks + ((f k.1).length + 1) }) ∨ (rest = [] ∧ g.toList = [tupleKeyHash knd (f k.1), tupleKeyHash knd (f k.2)] ∧ s' = { s with toks := s.toks + ((f k.1).length + 1) + ((f k.2).length + 1) }))
  _ ?_ ?_ _ _ (.inl ⟨rfl, rfl, rfl⟩)
 ·rintro x rest g s' (⟨hr, hg, rfl⟩ | ⟨hr, hg, rfl⟩ | ⟨hr, _⟩)
  ·cases hr
   refine wpAny_bind ((tupleKind knd).pyHash hu k1 ?_)
   first
    | exact wpAny_pure (.inr (.inl ⟨rfl, by simp [hg]; rfl, rfl⟩))
    | exact wpAny_bind (wpAny_pure (wpAny_pure (.inr (.inl ⟨rfl, by simp [hg]; rfl, rfl⟩))))
  ·cases hr
   refine wpAny_bind ((tupleKind knd).pyHash (s := { s with toks := s.toks + ((f k.1).length + 1) }) hu k2 ?_)
   first
    | exact wpAny_pure (.inr (.inr ⟨rfl, by simp [hg]; rfl, rfl⟩))
    | exact wpAny_bind (wpAny_pure (wpAny_pure (.inr (.inr ⟨rfl, by simp [hg]; rfl, rfl⟩))))
  ·cases hr
 ·rintro g s' (⟨hr, _⟩ | ⟨hr, _⟩ | ⟨_, hg, rfl⟩)
  ·cases hr
  ·cases hr
  show wpAny _ _ (retInt (Builtin.Tuple.tupleHashOf g.toList)) _ _ _
  rw [hg]
  refine wpAny_ret_mkInt ?_
  have et : s.toks + ((f k.1).length + 1) + ((f k.2).length + 1) + 1 = s.toks + ((f k.1).length + (f k.2).length + 3) := by omega
  unfold hashK4 reduceHash at h
  generalize Builtin.Tuple.tupleHashOf [tupleKeyHash knd (f k.1), tupleKeyHash knd (f k.2)] = hh at h ⊢
  show wpAny _ _ (if (decide (-(2 : Int) ^ 63 ≤ hh) && decide (hh < 2 ^ 63)) = true then _ else _) Q E _
  by_cases hr : (decide (-(2 : Int) ^ 63 ≤ hh) && decide (hh < 2 ^ 63)) = true
  ·rw [if_pos hr]
   rw [if_pos hr] at h
   exact wpAny_pure (by simpa [et] using h)
  ·rw [if_neg hr]
   rw [if_neg hr] at h
   exact wpAny_bind (wpAny_rule (wpAny_pure (by simpa [et] using h)))
theorem eq_tree_K4 {x y : K4} {a b : Addr} {P : Fin → Shared → Prop} (hf : ∀ c d, f c = f d → c = d) (hu : A.units < cLine) (hx : IsK4 knd f s.heap x a) (hy : IsK4 knd f s.heap y b) (h : P (.done (.ret (.bool (decide (x = y))))) s) :
  wpAny (model prog w) A (Builtin.«tuple.__eq__» ⟨[.ref a, .ref b], []⟩) P E s := by
 have hTb := hy.typeIs
 obtain ⟨oa, xs, na, b1, c1, hoa, _, hda, hia, k1, k2⟩ := hx
 obtain ⟨ob, ys, nb, b2, c2, hob, _, hdb, hib, l1, l2⟩ := hy
 show wpAny _ _ (isInstance (.ref b) (.type "tuple") >>= _) _ _ s
 refine wpAny_bind (wpAny_isInstance hTb isSubtype_tuple_tuple ?_)
 simp only [Bool.not_true, Bool.false_eq_true, if_false]
 refine wpAny_bind (wpAny_tupleItemsOf hoa hda ?_)
 refine wpAny_bind (wpAny_tupleItemsOf hob hdb ?_)
 refine wpAny_bind ?_
 rw [hia, hib]
 have hd1 : decide (f x.1 = f y.1) = decide (x.1 = y.1) := decide_eq_decide.mpr ⟨hf _ _, fun e => by rw [e]⟩
 have hd2 : decide (f x.2 = f y.2) = decide (x.2 = y.2) := decide_eq_decide.mpr ⟨hf _ _, fun e => by rw [e]⟩
 refine wpAny_forIn_list _
  (fun rest r s' => r.1 = none ∧ s' = s ∧ (rest = [(.ref b1, .ref b2), (.ref c1, .ref c2)] ∨ (rest = [(.ref c1, .ref c2)] ∧ x.1 = y.1) ∨ (rest = [] ∧ x = y)))
  _ ?_ ?_ _ _ ⟨rfl, rfl, .inl rfl⟩
 ·rintro ⟨u, v⟩ rest r s' ⟨hr, rfl, (hz | ⟨hz, hxy⟩ | ⟨hz, _⟩)⟩
  ·cases hz
   refine wpAny_bind ((tupleKind knd).eqBool hu k1 l1 ?_)
   by_cases hk : x.1 = y.1
   ·rw [hd1, decide_eq_true hk]
    simp only [Bool.not_true, Bool.false_eq_true, if_false]
    exact wpAny_pure ⟨rfl, rfl, .inr (.inl ⟨trivial, hk⟩)⟩
   ·rw [hd1, decide_eq_false hk]
    simp only [Bool.not_false, if_true]
    have hf' : decide (x = y) = false := decide_eq_false fun e => hk (by rw [e])
    rw [hf'] at h
    exact wpAny_bind (wpAny_pure (wpAny_pure (wpAny_pure h)))
  ·cases hz
   refine wpAny_bind ((tupleKind knd).eqBool hu k2 l2 ?_)
   by_cases hk : x.2 = y.2
   ·rw [hd2, decide_eq_true hk]
    simp only [Bool.not_true, Bool.false_eq_true, if_false]
    exact wpAny_pure ⟨rfl, rfl, .inr (.inr ⟨trivial, Prod.ext hxy hk⟩)⟩
   ·rw [hd2, decide_eq_false hk]
    simp only [Bool.not_false, if_true]
    have hf' : decide (x = y) = false := decide_eq_false fun e => hk (by rw [e])
    rw [hf'] at h
    exact wpAny_bind (wpAny_pure (wpAny_pure (wpAny_pure h)))
  ·cases hz
 ·rintro ⟨r1, r2⟩ s' ⟨hr, rfl, (hz | ⟨hz, _⟩ | ⟨_, hxy⟩)⟩
  ·cases hz
  ·cases hz
  simp only at hr
  subst hr
  refine wpAny_pure ?_
  have z1 : xs.size = 2 := by have := congrArg List.length hia; simpa using this
  have z2 : ys.size = 2 := by have := congrArg List.length hib; simpa using this
  show P (.done (.ret (.bool (xs.size == ys.size)))) s'
  rw [z1, z2]
  rw [decide_eq_true hxy] at h
  exact h
theorem eqBool_K4 {x y : K4} {a b : Addr} {Q : Bool → Shared → Prop} (hf : ∀ c d, f c = f d → c = d) (hu : A.units + 1 < cLine) (hx : IsK4 knd f s.heap x a) (hy : IsK4 knd f s.heap y b) (h : Q (decide (x = y)) s) :
  wpAny (model prog w) A (eqBool (.ref a) (.ref b)) Q E s := by
 unfold eqBool
 try with_reducible refine wpAny_holding ?_
 show wpAny _ _ (if (Value.ref a == Value.ref b) = true then _ else _) Q E s
 by_cases hab : (Value.ref a == Value.ref b) = true
 ·rw [if_pos hab]
  have e : a = b := by have := eq_of_beq hab; injection this
  subst e
  obtain rfl := IsK4.inj hf hx hy
  exact wpAny_bind (wpAny_rule (wpAny_pure (by simpa using h)))
 ·rw [if_neg hab]
  exact wpAny_bind (wpAny_richCompare_same_room (op := .Eq) hx.typeIs hy.typeIs F.slot_tuple_eq
   (wpAny_call_entry F.slot_tuple_eq hx.typeIs F.entry_tuple_eq (eq_tree_K4 hf hu hx hy ⟨_, rfl, (fun e => nomatch e), wpAny_truthy_bool h⟩) (F.args_tuple_eq_2 _ _)) (Nat.lt_of_succ_lt hu))
theorem quiet7 {ks : List K} {a : Addr} {Q : Bool → Shared → Prop} (hk : IsTupleKey knd s.heap ks a) (h : Q true s) : wpAny (model prog w) A (eqIsQuiet 7 (.ref a)) Q E s := by
 have hT := hk.typeIs
 obtain ⟨o, items, n, ho, _, hd, hi⟩ := hk
 unfold eqIsQuiet
 refine wpAny_bind (wpAny_specialOf hT F.slot_tuple_eq.lookup ?_)
 show wpAny _ _ (isInstance (.ref a) (.type "tuple") >>= _) _ _ s
 refine wpAny_bind (wpAny_isInstance hT isSubtype_tuple_tuple ?_)
 simp only [Bool.not_true, Bool.false_eq_true, if_false]
 refine wpAny_bind (wpAny_seqItems ho hd ?_)
 refine wpAny_bind ?_
 show wpAny _ _ (forIn items _ _) _ _ s
 rw [← Array.forIn_toList]
 refine wpAny_forIn_list _ (fun rest r s' => r.1 = none ∧ s' = s ∧ ∀ v ∈ rest, carriedByValue v = true) _ ?_ ?_ _ _ ⟨rfl, rfl, hi.byValue⟩
 ·rintro v rest r s' ⟨hr, rfl, hall⟩
  rw [eqIsQuiet_byValue _ (hall v List.mem_cons_self)]
  refine wpAny_bind (wpAny_pure ?_)
  simp only [Bool.not_true, Bool.false_eq_true, if_false]
  exact wpAny_pure ⟨rfl, rfl, fun u hu' => hall u (List.mem_cons_of_mem _ hu')⟩
 ·rintro ⟨r1, r2⟩ s' ⟨hr, rfl, _⟩
  simp only at hr
  subst hr
  exact wpAny_pure h
theorem quiet_K4 {k : K4} {a : Addr} {Q : Bool → Shared → Prop} (hk : IsK4 knd f s.heap k a) (h : Q true s) : wpAny (model prog w) A (eqIsQuiet 8 (.ref a)) Q E s := by
 have hT := hk.typeIs
 obtain ⟨o, items, n, b, c, ho, _, hd, hi, k1, k2⟩ := hk
 unfold eqIsQuiet
 refine wpAny_bind (wpAny_specialOf hT F.slot_tuple_eq.lookup ?_)
 show wpAny _ _ (isInstance (.ref a) (.type "tuple") >>= _) _ _ s
 refine wpAny_bind (wpAny_isInstance hT isSubtype_tuple_tuple ?_)
 simp only [Bool.not_true, Bool.false_eq_true, if_false]
 refine wpAny_bind (wpAny_seqItems ho hd ?_)
 refine wpAny_bind ?_
 show wpAny _ _ (forIn items _ _) _ _ s
 rw [← Array.forIn_toList, hi]
 refine wpAny_forIn_list _ (fun rest r s' => r.1 = none ∧ s' = s ∧ ∀ v ∈ rest, v = .ref b ∨ v = .ref c) _ ?_ ?_ _ _ ⟨rfl, rfl, fun v hv => by simpa using hv⟩
 ·rintro v rest r s' ⟨hr, rfl, hall⟩
  have q : ∀ {Q : Bool → Shared → Prop}, Q true s' → wpAny (model prog w) A (eqIsQuiet 7 v) Q E s' := fun hQ => by
   rcases hall v List.mem_cons_self with rfl | rfl
   ·exact quiet7 k1 hQ
   ·exact quiet7 k2 hQ
  refine wpAny_bind (q ?_)
  simp only [Bool.not_true, Bool.false_eq_true, if_false]
  exact wpAny_pure ⟨rfl, rfl, fun u hu' => hall u (List.mem_cons_of_mem _ hu')⟩
 ·rintro ⟨r1, r2⟩ s' ⟨hr, rfl, _⟩
  simp only at hr
  subst hr
  exact wpAny_pure h
end
noncomputable def kind4 {prog : Program} {w : World} {K : Type} [DecidableEq K] (knd : KeyKind prog w K) (f : Int × Int → List K) (hf : ∀ c d, f c = f d → c = d) : HeapKind prog w K4 where
 is := IsK4 knd f
 hash := hashK4 knd f
 draws := fun k => (f k.1).length + (f k.2).length + 3
 room := fun A => A.units + 1 < cLine
 inj := fun hx hy => IsK4.inj hf hx hy
 keeps := fun x ho hd hs => x.keeps ho hd hs
 pyHash := fun hu hk h => pyHash_K4 hu hk h
 eqBool := fun hu hx hy h => eqBool_K4 hf hu hx hy h
 quiet := fun hk h => quiet_K4 hk h
end PySem
namespace L2
open PySem PySem.Spec PyProof.Rows Wlk
noncomputable abbrev knd4 (P : Program) (w : World) : HeapKind P w K4 := kind4 (mixKind P w) keyP fun _ _ h => keyP_inj h
noncomputable def rows4 (xs : List (WStep × Addr)) : List (K4 × Addr × Value) := xs.map fun x => (x.1, x.2, Value.bool true)
noncomputable def gO (P : Program) (w : World) (d : Addr) (xs : List (WStep × Addr)) : HO := .ext fun h => (d == sysModules) = false ∧ ∃ o es ep, h.get? d = some o ∧ o.ExactDict ∧ o.data = .dict es ep ∧ es.toList = (rows4 xs).map (entryOfKey (knd4 P w))
theorem gO_ok {P : Program} {w : World} {H : Hp} {h : Heap} {d : Addr} {xs : List (WStep × Addr)} (x : (d == sysModules) = false ∧ ∃ o es ep, h.get? d = some o ∧ o.ExactDict ∧ o.data = .dict es ep ∧ es.toList = (rows4 xs).map (entryOfKey (knd4 P w))) : ObjOk P w H h d (gO P w d xs) := by
 refine ⟨x, ?_, fun h1 h2 ⟨z, o, es, ep, ho, r⟩ k => ⟨z, o, es, ep, k _ ho, r⟩⟩
 obtain ⟨_, o, _, _, ho, _⟩ := x
 exact ⟨o, ho⟩
structure GKeys (H : Hp) (xs : List (WStep × Addr)) : Prop where
 at' : ∀ x ∈ xs, StA H x.2 x.1
 nd : (xs.map (·.1)).Nodup
theorem GKeys.same {H H' : Hp} {xs : List (WStep × Addr)} (h : GKeys H xs) (s : Same H H') : GKeys H' xs := ⟨fun x hx => (h.at' x hx).same s, h.nd⟩
theorem sta_key {P : Program} {w : World} {H : Hp} {h : Heap} {a : Addr} {k : WStep} (ok : HOk P w H h) (e : StA H a k) : (knd4 P w).is h k a := by
 obtain ⟨b, c, e1, e2, e3⟩ := e
 obtain ⟨_, its, r, o, h1, h2, n, h3⟩ := (show ObjOk P w H h a (.tup [.ref b, .ref c]) from ok a _ e1)
 obtain ⟨u, v, rfl, ru, rv⟩ := vals2 r
 cases ru
 cases rv
 exact ⟨o, _, n, b, c, h1, h2, h3, rfl, key_of ok (ks := keyP k.1) e2, key_of ok (ks := keyP k.2) e3⟩
section
variable {X : Cx} {pins : List (Addr × Obj)} {σ : St} {H : Hp} {s : Shared} {d a : Addr} {xs : List (WStep × Addr)} {k : WStep} {A : Around} {E : Value → Shared → Prop}
theorem g_dict (I : Inv X pins σ H s) (e : H d = some (gO X.prog X.w d xs)) (g : GKeys H xs) : (d == sysModules) = false ∧ s.heap.DictOfH (knd4 X.prog X.w) d (rows4 xs) := by
 obtain ⟨⟨z, o, es, ep, ho, h1, h2, h3⟩, _, _⟩ := (show ObjOk X.prog X.w H s.heap d (gO X.prog X.w d xs) from I.hok _ _ e)
 refine ⟨z, o, es, ep, ho, h1, h2, h3, fun x hx => ?_, ?_⟩
 ·obtain ⟨y, hy, rfl⟩ := List.mem_map.mp hx
  exact sta_key I.hok (g.at' y hy)
 ·unfold rows4
  rw [List.map_map]
  exact g.nd
theorem at4 (xs : List (WStep × Addr)) (k : WStep) : (atKey (rows4 xs) k).isSome = decide (k ∈ xs.map (·.1)) := by
 unfold atKey rows4
 rw [Option.isSome_map, Bool.eq_iff_iff, List.find?_isSome, decide_eq_true_iff]
 constructor
 ·rintro ⟨x, hx, e⟩
  obtain ⟨y, hy, rfl⟩ := List.mem_map.mp hx
  exact List.mem_map.mpr ⟨y, hy, of_decide_eq_true e⟩
 ·intro h
  obtain ⟨y, hy, e⟩ := List.mem_map.mp h
  exact ⟨_, List.mem_map.mpr ⟨y, hy, rfl⟩, decide_eq_true e⟩
theorem g_in {Q : Value → Shared → Prop} (hu : A.units + 1 + 1 < cLine) (I : Inv X pins σ H s) (e : H d = some (gO X.prog X.w d xs)) (g : GKeys H xs) (ek : StA H a k) (h : ∀ s', Inv X pins σ H s' → Q (.bool (decide (k ∈ xs.map (·.1)))) s') :
  wpAny (model X.prog X.w) A (compareOp .In (.ref a) (.ref d)) Q E s := by
 obtain ⟨hd, dd⟩ := g_dict I e g
 refine wpAny_in_heap (knd := knd4 X.prog X.w) (k := k) (xs := rows4 xs) hu (sta_key I.hok ek) hd dd ?_
 rw [at4]
 exact h _ (I.tok _)
theorem g_put {Q : Unit → Shared → Prop} (hu : A.units + 1 + 1 < cLine) (I : Inv X pins σ H s) (e : H d = some (gO X.prog X.w d xs)) (g : GKeys H xs) (ek : StA H a k) (hk : k ∉ xs.map (·.1)) (hl : xs.length < 1000) (h : ∀ s', Inv X pins σ (upd H d (gO X.prog X.w d (xs ++ [(k, a)]))) s' → Q () s') :
  wpAny (model X.prog X.w) A (setItem (.ref d) (.ref a) (.bool true)) Q E s := by
 obtain ⟨hd, dd⟩ := g_dict I e g
 have hz : (rows4 xs).length ≤ sizeLine := by unfold rows4; rw [List.length_map, sizeLine_eq]; omega
 refine wpAny_setItem_heap (knd := knd4 X.prog X.w) (k := k) (xs := rows4 xs) (hsz := hz) hu (sta_key I.hok ek) dd fun h' dd' hs => h _ ?_
 have hn : atKey (rows4 xs) k = none := by
  have := at4 xs k
  rw [decide_eq_false hk] at this
  exact Option.isNone_iff_eq_none.mp (by rw [Option.isNone_iff_eq_none, ← Option.not_isSome_iff_eq_none, this]; decide)
 rw [storedH_new hn] at dd'
 obtain ⟨q, es, ep, hq, h2, h3, h4, _, h5⟩ := dd'
 refine d_write I (by rw [e]; exact True.intro) hs ⟨q, hq⟩ (gO_ok ⟨hd, q, es, ep, hq, h2, h3, ?_⟩)
 rw [h4]
 unfold rows4
 rw [List.map_append (l₁ := xs)]; rfl
end
noncomputable def tGNew (P : Program) (w : World) : TE := fun _ H Q => ∀ p, H p = none → Q (.ref p) (upd H p (gO P w p []))
noncomputable def tGIn (P : Program) (w : World) (ty td : TE) : TE := fun σ H Q => ty σ H fun y H1 => td σ H1 fun x H2 => ∃ d a xs k, x = .ref d ∧ y = .ref a ∧ H2 d = some (gO P w d xs) ∧ GKeys H2 xs ∧ StA H2 a k ∧ Q (.bl (decide (k ∈ xs.map (·.1)))) H2
noncomputable def sGPut (P : Program) (w : World) (td ty tv : TE) : TS := fun D σ H => tv σ H fun v H1 => td σ H1 fun x H2 => ty σ H2 fun y H3 => ∃ d a xs k, v = .bl true ∧ x = .ref d ∧ y = .ref a ∧ H3 d = some (gO P w d xs) ∧ GKeys H3 xs ∧ StA H3 a k ∧ k ∉ xs.map (·.1) ∧ xs.length < 1000 ∧ D.nx σ (upd H3 d (gO P w d (xs ++ [(k, a)])))
section
variable {X : Cx} {o i value : Expr} {td ty tv : TE} {pos pos' : Pos}
theorem pe_gnew : PE X (.Dict [] [] pos) (tGNew X.prog X.w) := fun pins s σ H Q I h =>
 wpAny_Dict_empty ⟨.ref s.heap.objs.size, _, I.laid (a := s.heap.objs.size) (o := gO X.prog X.w s.heap.objs.size []) (t' := s.toks) (fun _ _ q => Heap.get?_push_of_some _ q) (Nat.le_refl _)
  (gO_ok ⟨beq_eq_false_iff_ne.mpr (Ne.symm (Nat.ne_of_lt I.big)), _, #[], 0, Heap.get?_push_size _ rfl, ⟨rfl, rfl, rfl⟩, rfl, rfl⟩), rfl, h _ (I.hok.fresh (Nat.le_refl _))⟩
theorem pc_gin (hu : X.A.units + 1 + 1 < cLine) (hi : PE X i ty) (ho : PE X o td) : PC X .In i o (tGIn X.prog X.w ty td) := by
 intro pins s σ H Q I h
 refine thn (hi pins s σ H _ I h) fun iv s1 ⟨y, H1, I1, ry, q1⟩ => thn (ho pins s1 σ H1 _ I1 q1) fun u s2 ⟨x, H2, I2, rx, d, a, xs, k, ex, ey, e, g, ek, q2⟩ => ?_
 subst ex ey
 obtain rfl : u = Value.ref d := rx
 obtain rfl : iv = Value.ref a := ry
 exact g_in hu I2 e g ek fun s3 I3 => ⟨.bl _, H2, I3, rfl, q2⟩
theorem ps_gput (hu : X.A.units + 1 + 1 < cLine) (ho : PE X o td) (hi : PE X i ty) (hv : PE X value tv) (hs : swapsWith value (some (.Subscript o i pos')) pos.line X.env = pure false) :
  PS X (.Assign [.Subscript o i pos'] value pos) (sGPut X.prog X.w td ty tv) := by
 intro pins s σ H D I h
 refine wpAny_Assign_Subscript (thn (hv pins s σ H _ I h) fun r s1 ⟨v, H1, I1, rv, q1⟩ => thn (ho pins s1 σ H1 _ I1 q1) fun u s2 ⟨x, H2, I2, rx, q2⟩ => thn (hi pins s2 σ H2 _ I2 q2) fun iv s3 ⟨y, H3, I3, ry, d, a, xs, k, ev, ex, ey, e, g, ek, hk, hl, q3⟩ => ?_) hs
 subst ev ex ey
 obtain rfl : u = Value.ref d := rx
 obtain rfl : iv = Value.ref a := ry
 obtain rfl : r = Value.bool true := rv
 exact g_put hu I3 e g ek hk hl fun s4 I4 => ⟨σ, _, I4, q3⟩
end
end L2
namespace Wlk
open PySem PyProof.Rows Srt Cyc Grd
noncomputable def handsP (s : WStep) : WStep :=
 if s.1.1 = s.2.1 then (if s.1.2 < s.2.2 then ((s.1.1, min s.1.2 s.2.2), (s.1.1 - 1, min s.1.2 s.2.2)) else ((s.1.1 - 1, min s.1.2 s.2.2), (s.1.1, min s.1.2 s.2.2)))
 else (if s.1.1 < s.2.1 then ((min s.1.1 s.2.1, s.1.2 - 1), (min s.1.1 s.2.1, s.1.2)) else ((min s.1.1 s.2.1, s.1.2), (min s.1.1 s.2.1, s.1.2 - 1)))
theorem hands_ok {land : List Pl} {s : WStep} (h : s ∈ stepsU land) : (handsP s).1 ∈ land ∧ (handsP s).2 ∉ land ∧ (if s.1.1 - s.2.1 < 0 then -(s.1.1 - s.2.1) else s.1.1 - s.2.1) + (if s.1.2 - s.2.2 < 0 then -(s.1.2 - s.2.2) else s.1.2 - s.2.2) = 1 := by
 obtain ⟨⟨a, b⟩, hc, h⟩ := mem_U.mp h
 dsimp only at h
 rcases h with ⟨hn, rfl⟩ | ⟨hn, rfl⟩ | ⟨hn, rfl⟩ | ⟨hn, rfl⟩
 ·have e : handsP ((a, b), (a, b + 1)) = ((a, b), (a - 1, b)) := by
   unfold handsP; dsimp only; rw [if_pos rfl, if_pos (by omega), show min b (b + 1) = b by omega]
  rw [e]; refine ⟨hc, hn, ?_⟩; dsimp only; rw [if_neg (by omega), if_pos (by omega)]; omega
 ·have e : handsP ((a, b + 1), (a + 1, b + 1)) = ((a, b), (a, b + 1)) := by
   unfold handsP; dsimp only; rw [if_neg (by omega), if_pos (by omega), show min a (a + 1) = a by omega, show b + 1 - 1 = b by omega]
  rw [e]; refine ⟨hc, hn, ?_⟩; dsimp only; rw [if_pos (by omega), if_neg (by omega)]; omega
 ·have e : handsP ((a + 1, b + 1), (a + 1, b)) = ((a, b), (a + 1, b)) := by
   unfold handsP; dsimp only; rw [if_pos rfl, if_neg (by omega), show min (b + 1) b = b by omega, show a + 1 - 1 = a by omega]
  rw [e]; refine ⟨hc, hn, ?_⟩; dsimp only; rw [if_neg (by omega), if_neg (by omega)]; omega
 ·have e : handsP ((a + 1, b), (a, b)) = ((a, b), (a, b - 1)) := by
   unfold handsP; dsimp only; rw [if_neg (by omega), if_neg (by omega), show min (a + 1) a = a by omega]
  rw [e]; refine ⟨hc, hn, ?_⟩; dsimp only; rw [if_neg (by omega), if_neg (by omega)]; omega
end Wlk
namespace M50
open PySem L2 PyProof.Rows Grd Wlk Cyc Srt
noncomputable abbrev sHands : Stmt := top 60
noncomputable abbrev sCloses : Stmt := top 61
noncomputable def spHands : Sp := fun vs H Q _ => ∃ q s, vs = [.ref q] ∧ StA H q s ∧ ∀ q' H', Same H H' → StA H' q' (handsP s) → Q (.ref q') H'
section
variable {P : Program} {w : World} {K : PySem.W.Frag} {mg : Str → Option Value} {base : Heap}
noncomputable abbrev nHa : List Str := ["_law_step", "_law_row", "_law_column", "_law_later", "_law_beyond", "_law_low", "_law_high"]
theorem scHands : FnScope nHa ["_law_step"] (defScope sHands) := ⟨rfl, rfl, rfl, by decide +kernel, rfl, by decide +kernel, by decide +kernel⟩
theorem ok_hands {f : Addr} {fd : FuncData} (F : Fun K "_law_on_hands" "_law_on_hands" sHands f fd) (T2 : Txt2 mg) : FnOk P w K mg base CX0 1 f fd ["_law_step"] spHands := by
  refine F.ok scHands (fun vs H Q E h => ?_) (fun cdv A outer s H vs Q E hr h => ?_)
  · obtain ⟨q, s, rfl, _⟩ := h; rfl
  · obtain ⟨qa, ⟨⟨r, c⟩, ⟨l, b⟩⟩, rfl, ⟨p1, p2, e1, e2, e3⟩, q⟩ := h
    have nd := scHands.nd
    refine ⟨_, pss_cons (ps_asg (pv 0) (pg_tup rfl (pgs_cons (pg_tup rfl (pgs_cons (pg_name (i := 1) nd rfl (Or.inl rfl)) (pgs_cons (pg_name (i := 2) nd rfl (Or.inl rfl)) pgs_nil))) (pgs_cons (pg_tup rfl (pgs_cons (pg_name (i := 3) nd rfl (Or.inl rfl)) (pgs_cons (pg_name (i := 4) nd rfl (Or.inl rfl)) pgs_nil))) pgs_nil)))) <|
      pss_cons (ps_if (pt_cmpR op_eq (pv 1) (pv 3) (nomark _))
        (pss_cons (ps_set (i := 5) nd rfl (Or.inl rfl) (pe_callB (call_min2 rfl) rfl T2.min boot_min (pa_v (pv 2) (pa_v (pv 4) pa_nil)))) <|
         pss_one (ps_ret (pe_ifExp (pt_cmpR op_gt (pv 4) (pv 2) (nomark _)) (pe_tup (pa_t (pe_tup (pa_v (pv 1) (pa_v (pv 5) pa_nil))) (pa_t (pe_tup (pa_b (pe_op op_sub (pv 1) pe_int) (pa_v (pv 5) pa_nil))) pa_nil)))
          (pe_tup (pa_t (pe_tup (pa_b (pe_op op_sub (pv 1) pe_int) (pa_v (pv 5) pa_nil))) (pa_t (pe_tup (pa_v (pv 1) (pa_v (pv 5) pa_nil))) pa_nil)))))) pss_nil) <|
      pss_cons (ps_set (i := 6) nd rfl (Or.inl rfl) (pe_callB (call_min2 rfl) rfl T2.min boot_min (pa_v (pv 1) (pa_v (pv 3) pa_nil)))) <|
      pss_one (ps_ret (pe_ifExp (pt_cmpR op_gt (pv 3) (pv 1) (nomark _)) (pe_tup (pa_t (pe_tup (pa_v (pv 6) (pa_b (pe_op op_sub (pv 2) pe_int) pa_nil))) (pa_t (pe_tup (pa_v (pv 6) (pa_v (pv 2) pa_nil))) pa_nil)))
          (pe_tup (pa_t (pe_tup (pa_v (pv 6) (pa_v (pv 2) pa_nil))) (pa_t (pe_tup (pa_v (pv 6) (pa_b (pe_op op_sub (pv 2) pe_int) pa_nil))) pa_nil))))), ?_⟩
    refine ⟨_, rfl, qa, _, rfl, SqT.of e1, rfl, _, _, rfl, ⟨p1, _, rfl, SqT.of e2, rfl, _, _, rfl, _, _, rfl, rfl, ?_⟩⟩
    refine ⟨_, _, rfl, p2, _, rfl, SqT.of e3, rfl, _, _, rfl, _, _, rfl, rfl, rfl, ?_⟩
    have mk : ∀ (x y : Pl) (a1 a2 a3 : Addr), H a1 = none → upd H a1 (.tup [.int x.1, .int x.2]) a2 = none → upd (upd H a1 (.tup [.int x.1, .int x.2])) a2 (.tup [.int y.1, .int y.2]) a3 = none → handsP ((r, c), (l, b)) = (x, y) →
        Q (.ref a3) (upd (upd (upd H a1 (.tup [.int x.1, .int x.2])) a2 (.tup [.int y.1, .int y.2])) a3 (.tup [.ref a1, .ref a2])) := fun x y a1 a2 a3 h1 h2 h3 e => by
      have s1 := same_upd (o := .tup [.int x.1, .int x.2]) h1
      have s2 := same_upd (o := .tup [.int y.1, .int y.2]) h2
      have s3 := same_upd (o := .tup [.ref a1, .ref a2]) h3
      refine q a3 _ ((s1.trans s2).trans s3) ?_
      rw [e]
      exact ⟨a1, a2, upd_same, s3 _ _ (s2 _ _ upd_same), s3 _ _ upd_same⟩
    refine ⟨_, rfl, _, rfl, rfl, _, rfl, ite2d (fun z => ?_) fun z => ?_⟩
    · have y : r = l := V.int.inj z
      refine ⟨_, rfl, _, rfl, _, _, rfl, ?_⟩
      refine ⟨_, rfl, _, rfl, _, _, rfl, rfl, _, rfl, ite2d (fun z2 => ?_) fun z2 => ?_⟩
      · refine ⟨_, rfl, _, rfl, by show 2 ≤ sizeLine; decide, fun a1 h1 => ?_⟩
        refine ⟨_, rfl, _, _, rfl, rfl, _, rfl, by show 2 ≤ sizeLine; decide, fun a2 h2 => ?_⟩
        refine ⟨by show 2 ≤ sizeLine; decide, fun a3 h3 => ?_⟩
        refine mk (r, (if b < c then b else c)) (r - 1, (if b < c then b else c)) a1 a2 a3 h1 h2 h3 ?_
        unfold handsP; dsimp only; rw [if_pos y, if_pos z2, min_if]
      · refine ⟨_, rfl, _, _, rfl, rfl, _, rfl, by show 2 ≤ sizeLine; decide, fun a1 h1 => ?_⟩
        refine ⟨_, rfl, _, rfl, by show 2 ≤ sizeLine; decide, fun a2 h2 => ?_⟩
        refine ⟨by show 2 ≤ sizeLine; decide, fun a3 h3 => ?_⟩
        refine mk (r - 1, (if b < c then b else c)) (r, (if b < c then b else c)) a1 a2 a3 h1 h2 h3 ?_
        unfold handsP; dsimp only; rw [if_pos y, if_neg z2, min_if]
    · have y : ¬ r = l := fun e => z (by rw [e])
      refine ⟨_, rfl, _, rfl, _, _, rfl, ?_⟩
      refine ⟨_, rfl, _, rfl, _, _, rfl, rfl, _, rfl, ite2d (fun z2 => ?_) fun z2 => ?_⟩
      · refine ⟨_, rfl, _, rfl, _, _, rfl, rfl, by show 2 ≤ sizeLine; decide, fun a1 h1 => ?_⟩
        refine ⟨_, rfl, _, rfl, by show 2 ≤ sizeLine; decide, fun a2 h2 => ?_⟩
        refine ⟨by show 2 ≤ sizeLine; decide, fun a3 h3 => ?_⟩
        refine mk ((if l < r then l else r), c - 1) ((if l < r then l else r), c) a1 a2 a3 h1 h2 h3 ?_
        unfold handsP; dsimp only; rw [if_neg y, if_pos z2, min_if]
      · refine ⟨_, rfl, _, rfl, by show 2 ≤ sizeLine; decide, fun a1 h1 => ?_⟩
        refine ⟨_, rfl, _, rfl, _, _, rfl, rfl, by show 2 ≤ sizeLine; decide, fun a2 h2 => ?_⟩
        refine ⟨by show 2 ≤ sizeLine; decide, fun a3 h3 => ?_⟩
        refine mk ((if l < r then l else r), c) ((if l < r then l else r), c - 1) a1 a2 a3 h1 h2 h3 ?_
        unfold handsP; dsimp only; rw [if_neg y, if_neg z2, min_if]
end
end M50
namespace L2
open PySem PySem.Spec PyProof.Rows Wlk
theorem putG {P : Program} {w : World} {H : Hp} {d : Addr} {xs : List (WStep × Addr)} {ob : HO} (hd : H d = some (gO P w d xs)) : ∀ b u, H b = some (.tup u) → upd H d ob b = some (.tup u) := fun b u e => by
 rw [upd_ne fun z => ?_]; exact e
 rw [z, hd] at e; cases e
theorem StA.tups {H H' : Hp} {a : Addr} {s : WStep} (h : StA H a s) (k : ∀ b u, H b = some (.tup u) → H' b = some (.tup u)) : StA H' a s := let ⟨b, c, h1, h2, h3⟩ := h; ⟨b, c, k _ _ h1, k _ _ h2, k _ _ h3⟩
end L2
namespace M50
open PySem L2 PyProof.Rows Grd Wlk Cyc Srt
noncomputable def spCloses : Sp := fun vs H Q _ => ∃ t l cs ss, vs = [.ref t, .ref l] ∧ SqA H t cs ∧ cs.length ≤ 10 ∧ cs.Nodup ∧ Srtd ss (stepsU cs) ∧ WkL H l (walksP ss) ∧ ∀ H', Same H H' → Q (.bl true) H'
section
variable {P : Program} {w : World} {K : PySem.W.Frag} {mg : Str → Option Value} {base : Heap}
noncomputable abbrev nCs : List Str := ["_law_land_here", "_law_walks", "_law_gone", "_law_walk", "_law_one", "_law_other", "_law_right_here", "_law_left"]
theorem scCloses : FnScope nCs ["_law_land_here", "_law_walks"] (defScope sCloses) := ⟨rfl, rfl, rfl, by decide +kernel, rfl, by decide +kernel, by decide +kernel⟩
theorem ok_closes {f g1 : Addr} {fd d1 : FuncData} (F : Fun K "_law_closes" "_law_closes" sCloses f fd) (T2 : Txt2 mg) (a1 : At P w K mg base CX0 1 "_law_on_hands" g1 d1 ["_law_step"] spHands) : FnOk P w K mg base CX0 2 f fd ["_law_land_here", "_law_walks"] spCloses := by
  refine F.ok scCloses (fun vs H Q E h => ?_) (fun cdv A outer s H vs Q E hr h => ?_)
  · obtain ⟨t, l, cs, ss, rfl, _⟩ := h; rfl
  · obtain ⟨t, lw, cs, ss, rfl, ⟨ts, ht, hP⟩, h10, hnd, so, ⟨ws, hw, hW⟩, q⟩ := h
    have nd := scCloses.nd
    have h40 := ss40 h10 so
    have gp : (((walksP ss).map zipN).flatten).Perm (stepsU cs) := by
      have := gone_perm hnd so
      rw [← zip_walks hnd so] at this
      exact this
    have gnd : (((walksP ss).map zipN).flatten).Nodup := (gp.trans so.1.symm).nodup_iff.mpr (of_srt hnd so).nd
    have glen : (((walksP ss).map zipN).flatten).length ≤ 40 := by rw [gp.length_eq, ← so.1.length_eq]; exact h40
    have hwl : ws.length = (walksP ss).length := Paired.length hW
    refine ⟨_, pss_cons (ps_set (i := 2) nd rfl (Or.inl rfl) pe_gnew) <|
      pss_cons (ps_for PassesOwn.never rfl (pi_list (pv 1)) (pg_name (i := 3) nd rfl (Or.inl rfl))
        (pss_one (ps_for PassesOwn.never rfl (pi_zip kT_ok rfl T2.zip (pa_v (pv 3) (pa_b (pe_op op_catU (pe_slice sl_tupU (pv 3) (po_some pe_int) po_none) (pe_slice sl_tupU (pv 3) po_none (po_some pe_int))) pa_nil)))
          (pg_tup rfl (pgs_cons (pg_name (i := 4) nd rfl (Or.inl rfl)) (pgs_cons (pg_name (i := 5) nd rfl (Or.inl rfl)) pgs_nil)))
          (pss_cons (ps_if (PW.pt (pw_or (pt_cmpR op_ne (pe_op op_add (pe_callB call_abs rfl T2.abs boot_abs (pa_b (pe_op op_sub (pe_ix ix_tup (pv 4) pe_int (fun _ _ => rfl)) (pe_ix ix_tup (pv 5) pe_int (fun _ _ => rfl))) pa_nil)) (pe_callB call_abs rfl T2.abs boot_abs (pa_b (pe_op op_sub (pe_ix ix_tup (pv 4) pe_int (fun _ _ => rfl)) (pe_ix ix_tup (pv 5) pe_int (fun _ _ => rfl))) pa_nil))) pe_int (nomark _))
              (pw_or1 (pt_cmp (pc_gin (hu1_of hr) (pe_tup (pa_v (pv 4) (pa_v (pv 5) pa_nil))) (pv 2)) rfl)))) pss_never pss_nil) <|
           pss_cons (ps_asg (pe_call a1.ok hr rfl a1.nm a1.kp a1.bd .nil pass0 (pa_t (pe_tup (pa_v (pv 4) (pa_v (pv 5) pa_nil))) pa_nil)) (pg_tup rfl (pgs_cons (pg_name (i := 6) nd rfl (Or.inl rfl)) (pgs_cons (pg_name (i := 7) nd rfl (Or.inl rfl)) pgs_nil)))) <|
           pss_cons (ps_if (PW.pt (pw_or (pt_cmpR (op_notInD 1 (hu1_of hr)) (pv 6) (pv 0) rfl) (pw_or1 (pt_cmpR (op_inD 1 (hu1_of hr)) (pv 7) (pv 0) rfl)))) pss_never pss_nil) <|
           pss_one (ps_gput (hu1_of hr) (pv 2) (pe_tup (pa_v (pv 4) (pa_v (pv 5) pa_nil))) pe_bl rfl))))) <|
      pss_one (ps_ret pe_bl), ?_⟩
    refine fun d hd => ?_
    have s0 := same_upd (o := gO P w d []) hd
    refine ⟨_, rfl, lw, rfl, ⟨_, SqL.of (s0 _ _ hw)⟩, ?_⟩
    refine for_list (K := K) (a := lw) (xs := ws.map V.ref) (fun i σ H' => (∃ o3 o4 o5 o6 o7, σ = [some (.ref t), some (.ref lw), some (.ref d), o3, o4, o5, o6, o7]) ∧ Same H H' ∧ ∃ xs, H' d = some (gO P w d xs) ∧ GKeys H' xs ∧ xs.map (·.1) = (((walksP ss).take i).map zipN).flatten)
      ⟨⟨_, _, _, _, _, rfl⟩, s0, [], upd_same, ⟨fun x hx => (List.not_mem_nil hx).elim, List.nodup_nil⟩, rfl⟩ (fun i σ H' _ h => SqL.of (h.2.1 _ _ hw)) ?_ ?_
    · rintro i x σ H' hx ⟨⟨o3, o4, o5, o6, o7, rfl⟩, hs, xs, hd', gk, hk⟩
      obtain ⟨wa, hwa, rfl⟩ := getR hx
      obtain ⟨c, hc, ps, hps, hPc⟩ := WkP.at hW hwa
      have hpl : ps.length = c.length := Paired.length hPc
      have esp : ((walksP ss).map zipN).flatten = (((walksP ss).take i).map zipN).flatten ++ (zipN c ++ (((walksP ss).drop (i + 1)).map zipN).flatten) := by
        obtain ⟨hil, hie⟩ := List.getElem?_eq_some_iff.mp hc
        conv => lhs; rw [← List.take_append_drop i (walksP ss), List.drop_eq_getElem_cons hil, hie]
        rw [List.map_append, List.flatten_append, List.map_cons, List.flatten_cons]
      have hcl : c.length ≤ 40 := by
        rw [esp, List.length_append, List.length_append, zipN_len] at glen
        omega
      refine ⟨_, rfl, _, rfl, _, rfl, wa, _, rfl, hs _ _ hps, fun p1 H1 s1 h1 => ?_⟩
      rw [cutR] at h1
      refine ⟨_, rfl, _, rfl, wa, _, rfl, s1 _ _ (hs _ _ hps), fun p2 H2 s2 h2 => ?_⟩
      rw [cutR1] at h2
      refine ⟨p1, p2, _, _, rfl, rfl, s2 _ _ h1, h2, by rw [List.length_map, List.length_map, List.length_drop, List.length_take, sizeLine_eq]; omega, fun p3 H3 s3 h3 => ?_⟩
      rw [← List.map_append] at h3
      have s13 := (s1.trans s2).trans s3
      have hs3 := hs.trans s13
      refine ⟨wa, p3, _, _, rfl, SqT.of (hs3 _ _ hps), SqT.of h3, ?_⟩
      have hD : PlAt H3 (ps.drop 1 ++ ps.take 1) (c.drop 1 ++ c.take 1) := (pl_app (pl_drop 1 hPc) (pl_take 1 hPc)).same hs3
      refine for_zip (xs := ps.map V.ref) (ys := (ps.drop 1 ++ ps.take 1).map V.ref) (by rw [List.length_map, List.length_map, List.length_append, List.length_drop, List.length_take]; omega)
        (fun j σ H' => (∃ o4 o5 o6 o7, σ = [some (.ref t), some (.ref lw), some (.ref d), some (.ref wa), o4, o5, o6, o7]) ∧ Same H H' ∧ H' p3 = some (.tup ((ps.drop 1 ++ ps.take 1).map V.ref)) ∧ PlAt H' (ps.drop 1 ++ ps.take 1) (c.drop 1 ++ c.take 1) ∧ ∃ xs, H' d = some (gO P w d xs) ∧ GKeys H' xs ∧ xs.map (·.1) = (((walksP ss).take i).map zipN).flatten ++ (zipN c).take j)
        ⟨⟨_, _, _, _, rfl⟩, hs3, h3, hD, xs, s13 _ _ hd', gk.same s13, by rw [List.take_zero, List.append_nil]; exact hk⟩ (fun j σ H' h => ⟨SqT.of (h.2.1 _ _ hps), SqT.of h.2.2.1⟩) ?_ ?_
      · rintro j x y p σ H4 hx hy ⟨⟨o4, o5, o6, o7, rfl⟩, hsj, h3j, hDj, xs, hdj, gkj, hkj⟩ hp
        obtain ⟨b1, hb1, rfl⟩ := getR hx
        obtain ⟨b2, hb2, rfl⟩ := getR hy
        obtain ⟨e1, he1, f1⟩ := hPc.at hb1
        obtain ⟨e2, he2, f2⟩ := hDj.at hb2
        have ez : (zipN c)[j]? = some (e1, e2) := List.getElem?_zip_eq_some.mpr ⟨he1, he2⟩
        obtain ⟨hjl, hje⟩ := List.getElem?_eq_some_iff.mp ez
        have hmem : (e1, e2) ∈ stepsU cs := gp.subset (by rw [esp]; exact List.mem_append_right _ (List.mem_append_left _ (List.mem_of_getElem? ez)))
        obtain ⟨hin, hout, hab⟩ := hands_ok hmem
        have hnot : (e1, e2) ∉ xs.map (·.1) := by
          rw [hkj]
          have h1 := gnd
          rw [esp, ← List.append_assoc] at h1
          have h2 : ((((walksP ss).take i).map zipN).flatten ++ zipN c).Nodup := (List.nodup_append.mp h1).1
          have h3 : zipN c = (zipN c).take j ++ (e1, e2) :: (zipN c).drop (j + 1) := by
            conv => lhs; rw [← List.take_append_drop j (zipN c), List.drop_eq_getElem_cons hjl, hje]
          rw [h3, ← List.append_assoc] at h2
          exact fun hm => (List.nodup_append.mp h2).2.2 _ hm _ List.mem_cons_self rfl
        have hxl : xs.length ≤ 40 := by
          have h1 := congrArg List.length hkj
          rw [esp, List.length_append, List.length_append] at glen
          rw [List.length_map, List.length_append, List.length_take] at h1
          omega
        have s4 := same_upd (o := .tup [.ref b1, .ref b2]) hp
        have g1 := s4 _ _ (hsj _ _ f1)
        have g2 := s4 _ _ f2
        have hd4 := s4 _ _ hdj
        have gk4 := gkj.same s4
        refine ⟨p, _, rfl, SqT.of upd_same, rfl, _, _, rfl, _, _, rfl, rfl, ?_⟩
        refine ⟨_, rfl, b1, _, _, _, rfl, rfl, SqT.of g1, rfl, _, rfl, b2, _, _, _, rfl, rfl, SqT.of g2, rfl, _, _, rfl, rfl, _, rfl, ?_⟩
        refine ⟨_, rfl, b1, _, _, _, rfl, rfl, SqT.of g1, rfl, _, rfl, b2, _, _, _, rfl, rfl, SqT.of g2, rfl, _, _, rfl, rfl, _, rfl, ?_⟩
        refine ⟨_, _, rfl, rfl, rfl, _, rfl, ite2n (fun z => absurd (congrArg V.int hab) z) fun _ => ?_⟩
        refine ⟨_, rfl, _, rfl, by show 2 ≤ sizeLine; decide, fun k1 hk1 => ?_⟩
        have s5 := same_upd (o := .tup [.ref b1, .ref b2]) hk1
        refine ⟨_, rfl, d, k1, xs, (e1, e2), rfl, rfl, s5 _ _ hd4, gk4.same s5, ⟨b1, b2, upd_same, s5 _ _ g1, s5 _ _ g2⟩, _, rfl, ite2d (fun z => absurd z hnot) fun _ => ?_⟩
        refine ⟨_, rfl, _, rfl, by show 2 ≤ sizeLine; decide, fun k2 hk2 => ?_⟩
        have s6 := same_upd (o := .tup [.ref b1, .ref b2]) hk2
        have s56 := s5.trans s6
        refine ⟨k2, (e1, e2), rfl, ⟨b1, b2, upd_same, s56 _ _ g1, s56 _ _ g2⟩, fun qh H7 s7 hqh => ?_⟩
        obtain ⟨ra, la, r1, r2, r3⟩ := hqh
        have s57 := s56.trans s7
        have hA7 := (hsj.trans s4).trans s57
        refine ⟨qh, _, rfl, SqT.of r1, rfl, _, _, rfl, _, _, rfl, rfl, ?_⟩
        refine ⟨_, rfl, _, rfl, t, _, _, rfl, .inl (hA7 _ _ ht), e3Pl r2 (hP.same hA7), _, rfl, ?_⟩
        rw [any_eqP]
        refine iteB (fun z' => absurd hin (by simpa using z')) fun _ => ?_
        refine ⟨_, rfl, _, rfl, t, _, _, rfl, .inl (hA7 _ _ ht), e3Pl r3 (hP.same hA7), _, rfl, ?_⟩
        rw [any_eqP]
        refine iteB (fun z' => absurd (by simpa using z') hout) fun _ => ?_
        refine ⟨_, rfl, _, rfl, _, rfl, by show 2 ≤ sizeLine; decide, fun k3 hk3 => ?_⟩
        have s8 := same_upd (o := .tup [.ref b1, .ref b2]) hk3
        have s58 := s57.trans s8
        have hd8 := s58 _ _ hd4
        have sta : StA (upd H7 k3 (.tup [.ref b1, .ref b2])) k3 (e1, e2) := ⟨b1, b2, upd_same, s58 _ _ g1, s58 _ _ g2⟩
        refine ⟨d, k3, xs, (e1, e2), rfl, rfl, rfl, hd8, gk4.same s58, sta, hnot, by omega, ?_⟩
        have kt := putG (ob := gO P w d (xs ++ [((e1, e2), k3)])) hd8
        refine ⟨⟨_, _, _, _, rfl⟩, fun b' u e' => ?_, kt _ _ (s58 _ _ (s4 _ _ h3j)), Paired.mapP hDj fun _ _ z => kt _ _ (s58 _ _ (s4 _ _ z)), xs ++ [((e1, e2), k3)], upd_same, ⟨fun x hx => ?_, ?_⟩, ?_⟩
        · rw [upd_ne (ne_of_none e' hd)]; exact s8 _ _ (hA7 _ _ e')
        · rcases List.mem_append.mp hx with z | z
          · exact ((gk4.same s58).at' x z).tups kt
          · rw [List.mem_singleton.mp z]; exact sta.tups kt
        · rw [List.map_append, List.nodup_append]
          refine ⟨gkj.nd, by simp, fun a ha b hb e => ?_⟩
          rw [List.map_cons, List.map_nil, List.mem_singleton] at hb
          rw [e, hb] at ha
          exact hnot ha
        · rw [List.map_append, hkj, List.take_succ, ez, List.append_assoc]; rfl
      · rintro σ H4 ⟨⟨o4, o5, o6, o7, rfl⟩, hsj, _, _, xs, hdj, gkj, hkj⟩
        refine ⟨⟨_, _, _, _, _, rfl⟩, hsj, xs, hdj, gkj, ?_⟩
        have ez : (zipN c).take (ps.map V.ref).length = zipN c := List.take_of_length_le (by rw [zipN_len, List.length_map, hpl]; exact Nat.le_refl _)
        rw [ez] at hkj
        rw [List.take_succ, hc, List.map_append, List.flatten_append, hkj]
        simp
    · rintro σ H' ⟨_, hs, _⟩
      exact q H' hs
end
end M50
namespace M50
open PySem L2 PyProof.Rows Grd Wlk Cyc Srt
noncomputable abbrev sRight : Stmt := top 62
noncomputable def spRight : Sp := fun vs H Q _ => ∃ a t g w cs, vs = [.ref a, .ref t] ∧ GridAt H a g ∧ Good g w ∧ SqA H t cs ∧ LandOf g cs ∧ ∀ H', Same H H' → Q (.bl true) H'
theorem castSum : ∀ l : List (List Pl), (l.map fun w => (w.length : Int)).sum = (((l.map List.length).sum : Nat) : Int)
 | [] => rfl
 | x :: l => by rw [List.map_cons, List.sum_cons, castSum l, List.map_cons, List.sum_cons]; omega
theorem castSumU : ∀ l : List (List Pl), (l.map fun P => ((stepsU P).length : Int)).sum = (((l.map fun P => (stepsU P).length).sum : Nat) : Int)
 | [] => rfl
 | x :: l => by rw [List.map_cons, List.sum_cons, castSumU l, List.map_cons, List.sum_cons]; omega
section
variable {P : Program} {w : World} {K : PySem.W.Frag} {mg : Str → Option Value} {base : Heap}
noncomputable abbrev nRi : List Str := ["_law_mead_here", "_law_land_here", "_law_walks", "_law_many"]
theorem scRight : FnScope nRi ["_law_mead_here", "_law_land_here"] (defScope sRight) := ⟨rfl, rfl, rfl, by decide +kernel, rfl, by decide +kernel, by decide +kernel⟩
theorem ndRi1 : (["_law_walk"] : List Str).Nodup := by decide +kernel
theorem ndRi2 : (["_law_piece", "_law_mead_here"] : List Str).Nodup := by decide +kernel
theorem ok_right {f g1 g2 g3 g4 g5 g6 g7 : Addr} {fd d1 d2 d3 d4 d5 d6 d7 : FuncData} (F : Fun K "_law_right" "_law_right" sRight f fd) (T : Txt mg) (T2 : Txt2 mg) (a1 : At P w K mg base CX0 8 "walks_of" g1 d1 ["mead", "land"] spWalksOf) (a2 : At P w K mg base CX0 8 "walks_hold" g2 d2 ["mead", "land", "thing"] spHold) (a3 : At P w K mg base CX0 2 "_law_closes" g3 d3 ["_law_land_here", "_law_walks"] spCloses) (a4 : At P w K mg base CX0 9 "steps_round" g4 d4 ["mead", "land"] spRound) (a5 : At P w K mg base CX0 9 "land_in" g5 d5 ["mead", "walks"] spCellsIn) (a6 : At P w K mg base CX0 8 "pieces_of" g6 d6 ["mead", "land"] spPieces) (a7 : At P w K mg base CX0 9 "twice_area" g7 d7 ["mead", "walks"] spArea) : FnOk P w K mg base CX0 10 f fd ["_law_mead_here", "_law_land_here"] spRight := by
 refine F.ok scRight (fun vs H Q E h => ?_) (fun cdv A outer s H vs Q E hr h => ?_)
 ·obtain ⟨a, t, g, w', cs, rfl, _⟩ := h; rfl
 ·obtain ⟨a, t, g, w', cs, rfl, hA, G, hT, hL, q⟩ := h
  have nd := scRight.nd
  have h10 := LandOf.len G hL
  have hup := (gridF_up pos g).sublist hL
  have hnd := up_nd hup
  have r8 : Room 8 _ := hr.mono (by decide)
  refine ⟨_, pss_cons (ps_set (i := 2) nd rfl (Or.inl rfl) (pe_call a1.ok r8 rfl a1.nm a1.kp a1.bd .nil pass0 (pa_v (pv 0) (pa_v (pv 1) pa_nil)))) <|
   pss_cons (ps_if (PW.pt (pw_or (pt_not (pt_val (pe_call a2.ok r8 rfl a2.nm a2.kp a2.bd .nil pass0 (pa_v (pv 0) (pa_v (pv 1) (pa_v (pv 2) pa_nil)))))) (pw_or1 (pt_not (pt_val (pe_call a3.ok (hr.mono (by decide)) rfl a3.nm a3.kp a3.bd .nil pass0 (pa_v (pv 1) (pa_v (pv 2) pa_nil)))))))) pss_never pss_nil) <|
   pss_cons (ps_if (PW.pt (pw_or (pt_cmpR op_ne (pe_callB (call_sumI rfl) rfl T2.sum boot_sum (pa_lc (pe_comp1 (defScope sRight).names nRi ["_law_walk"] [] rfl (pi_list (pv 2)) rfl rfl rfl (by decide +kernel)
     (fun Z => pg_name (i := 0) ndRi1 rfl (Or.inl rfl)) (fun Z => pts_nil) (fun Z => pe_callB call_len_seq rfl T.len PySem.boot_len (pa_v (pv 0) pa_nil))) pa_nil)) (pe_call a4.ok hr rfl a4.nm a4.kp a4.bd .nil pass0 (pa_v (pv 0) (pa_v (pv 1) pa_nil))) (nomark _))
    (pw_or1 (pt_cmpR (op_neD 1 (hu1_of hr)) (pe_call a5.ok hr rfl a5.nm a5.kp a5.bd .nil pass0 (pa_v (pv 0) (pa_v (pv 2) pa_nil))) (pv 1) (nomark _))))) pss_never pss_nil) <|
   pss_cons (ps_set (i := 3) nd rfl (Or.inl rfl) (pe_callB (call_sumI rfl) rfl T2.sum boot_sum (pa_lc (pe_comp1 (defScope sRight).names nRi ["_law_piece"] [("_law_mead_here", 0)] rfl (pi_list (pe_call a6.ok r8 rfl a6.nm a6.kp a6.bd .nil pass0 (pa_v (pv 0) (pa_v (pv 1) pa_nil)))) rfl rfl rfl (by decide +kernel)
     (fun Z => pg_name (i := 0) ndRi2 rfl (Or.inl rfl)) (fun Z => pts_nil) (fun Z => pe_call a4.ok hr rfl a4.nm a4.kp a4.bd .nil pass0 (pa_v (pv 1) (pa_v (pv 0) pa_nil)))) pa_nil))) <|
   pss_one (ps_ret (pe_and (pe_cmpR op_eq (pe_call a7.ok hr rfl a7.nm a7.kp a7.bd .nil pass0 (pa_v (pv 0) (pa_v (pv 2) pa_nil))) (pe_op op_mul pe_int (pe_callB call_len_seq rfl T.len PySem.boot_len (pa_v (pv 1) pa_nil))) (nomark _)) (pe_one (pe_cmpR op_eq (pv 3) (pe_call a4.ok hr rfl a4.nm a4.kp a4.bd .nil pass0 (pa_v (pv 0) (pa_v (pv 1) pa_nil))) (nomark _))))), ?_⟩
  refine ⟨_, rfl, _, rfl, a, t, g, w', cs, rfl, hA, G, hT, hL, fun lw ws ss H1 hlw s1 hlw1 so hW => ?_⟩
  have WL : WkL H1 lw (walksP ss) := ⟨ws, hlw1, hW⟩
  obtain ⟨gp, g40, w40, ws40, s40⟩ := gone40 G hL so
  have hwl : ws.length = (walksP ss).length := Paired.length hW
  refine ⟨_, rfl, _, rfl, _, rfl, a, t, lw, g, w', cs, ss, rfl, hA.same s1, G, hT.same s1, hL, so, WL, fun H2 s2 => ⟨_, rfl, iteF ?_⟩⟩
  refine ⟨_, rfl, _, rfl, t, lw, cs, ss, rfl, (hT.same s1).same s2, h10, hnd, so, WL.same s2, fun H3 s3 => ⟨_, rfl, iteF ?_⟩⟩
  have s13 := (s1.trans s2).trans s3
  have s23 := s2.trans s3
  refine ⟨_, rfl, lw, rfl, ⟨_, SqL.of (s23 _ _ hlw1)⟩, fun Z l2 hl2 => ?_⟩
  refine for_list (K := K) (a := lw) (xs := ws.map V.ref) (fun i σ H' => σ.length = 1 ∧ Same H3 H' ∧ H' l2 = some (.lst (((walksP ss).take i).map fun w => V.int (w.length : Int)))) ⟨rfl, same_upd hl2, by rw [upd_same]; rfl⟩ (fun i σ H' _ h => SqL.of (h.2.1 _ _ (s23 _ _ hlw1))) ?_ ?_
  ·rintro i x σ H' hx ⟨hσ, hs, hl2'⟩
   match σ, hσ with
   | [x0], _ =>
   obtain ⟨q1, hq1, rfl⟩ := getR hx
   obtain ⟨wk, hwk, ps, e1, e2⟩ := hW.at hq1
   refine body_name ?_
   refine ⟨_, rfl, q1, _, rfl, .inr (SqT.of (hs _ _ (s23 _ _ e1))), ?_⟩
   refine ⟨_, hl2', small1000 (by rw [List.length_map, List.length_take]; omega), rfl, fun b' u e' => ?_, ?_⟩
   ·rw [upd_ne (ne_of_none e' hl2)]; exact hs _ _ e'
   ·rw [upd_same, List.take_succ, hwk, List.map_append, List.length_map, show ps.length = wk.length from Paired.length e2]; rfl
  ·rintro σ H4 ⟨_, s4, hl2'⟩
   rw [List.length_map, hwl, List.take_of_length_le (Nat.le_refl _)] at hl2'
   refine ⟨l2, (walksP ss).map fun w => (w.length : Int), rfl, SqL.of (by rw [hl2', List.map_map]; rfl), by rw [List.length_map]; omega, fun n hn => ?_, ?_⟩
   ·obtain ⟨w, hw, rfl⟩ := List.mem_map.mp hn
    have := ws40 w hw
    omega
   rw [castSum, walks_sum hnd so, so.1.length_eq]
   have s14 := s13.trans s4
   refine ⟨_, rfl, _, rfl, a, t, g, w', cs, rfl, hA.same s14, G, hT.same s14, hL, fun H5 s5 => ?_⟩
   refine ⟨rfl, _, rfl, ite2n (fun z => absurd rfl z) fun _ => ?_⟩
   have s15 := s14.trans s5
   have s25 := (s23.trans s4).trans s5
   refine ⟨_, rfl, _, rfl, a, lw, g, w', cs, ss, rfl, hA.same s15, G, hL, so, WL.same s25, fun t6 H6 s6 hT6 => ?_⟩
   have s16 := s15.trans s6
   obtain ⟨p6, q6, r6⟩ := hT6
   obtain ⟨p0, q0, r0⟩ := hT.same s16
   refine ⟨_, rfl, t6, t, _, _, _, rfl, rfl, .inl ⟨q6, q0⟩, e3PlSame r6 r0, _, rfl, ?_⟩
   rw [all_true]
   refine iteF ?_
   refine ⟨_, rfl, _, rfl, a, t, g, w', cs, rfl, hA.same s16, G, hT.same s16, hL, fun lp pcs H7 hlp s7 hWp hpl pc => ?_⟩
   obtain ⟨pw, hlp7, hPw⟩ := hWp
   have hpwl : pw.length = pcs.length := Paired.length hPw
   have s17 := s16.trans s7
   have pLand : ∀ P ∈ pcs, LandOf g P := fun P hP => (up_sub (pc.up P hP) hup (pc.sub P hP)).trans hL
   refine ⟨lp, rfl, ⟨_, SqL.of hlp7⟩, fun Z l3 hl3 => ?_⟩
   refine for_list (K := K) (a := lp) (xs := pw.map V.ref) (fun i σ H' => (∃ o, σ = [o, some (.ref a)]) ∧ Same H7 H' ∧ H' l3 = some (.lst ((pcs.take i).map fun P => V.int ((stepsU P).length : Int)))) ⟨⟨_, rfl⟩, same_upd hl3, by rw [upd_same]; rfl⟩ (fun i σ H' _ h => SqL.of (h.2.1 _ _ hlp7)) ?_ ?_
   ·rintro i x σ H' hx ⟨⟨o, rfl⟩, hs, hl3'⟩
    obtain ⟨q1, hq1, rfl⟩ := getR hx
    obtain ⟨R, hR, hRq⟩ := WkP.at hPw hq1
    have hi : i < pw.length := (List.getElem?_eq_some_iff.mp hq1).1
    show tBodyC _ _ _ [some (.ref q1), some (.ref a)] H'
    refine ⟨_, rfl, _, rfl, a, q1, g, w', R, rfl, hA.same (s17.trans hs), G, hRq.same hs, pLand R (List.mem_of_getElem? hR), fun H8 s8 => ?_⟩
    refine ⟨_, s8 _ _ hl3', small1000 (by rw [List.length_map, List.length_take]; omega), ⟨_, rfl⟩, fun b' u e' => ?_, ?_⟩
    ·rw [upd_ne (ne_of_none e' hl3)]; exact s8 _ _ (hs _ _ e')
    ·rw [upd_same, List.take_succ, hR, List.map_append]; rfl
   ·rintro σ H8 ⟨_, s8, hl3'⟩
    rw [List.length_map, hpwl, List.take_of_length_le (Nat.le_refl _)] at hl3'
    refine ⟨l3, pcs.map fun P => ((stepsU P).length : Int), rfl, SqL.of (by rw [hl3', List.map_map]; rfl), by rw [List.length_map]; omega, fun n hn => ?_, ?_⟩
    ·obtain ⟨R, hR, rfl⟩ := List.mem_map.mp hn
     have h1 := stepsU_len R R
     have h2 := LandOf.len G (pLand R hR)
     unfold stepsU
     omega
    rw [castSumU, pieces_sum hnd pc]
    have s18 := s17.trans s8
    have s28 := ((s25.trans s6).trans s7).trans s8
    refine ⟨_, rfl, _, rfl, a, lw, g, w', cs, ss, rfl, hA.same s18, G, hL, so, WL.same s28, fun H9 s9 => ?_⟩
    have s19 := s18.trans s9
    obtain ⟨p9, q9, r9⟩ := hT.same s19
    have hp9 : p9.length = cs.length := Paired.length r9
    refine ⟨_, rfl, t, _, rfl, .inr (SqT.of q9), _, _, rfl, rfl, .inl (by decide), rfl, ?_⟩
    have e9 : decide (V.int ((2 * cs.length : Nat) : Int) = V.int (2 * (((p9.map V.ref).length : Nat) : Int))) = true := decide_eq_true (by rw [List.length_map, hp9]; congr 1)
    rw [e9]
    refine ⟨_, rfl, iteT ?_⟩
    refine ⟨_, rfl, _, rfl, _, rfl, a, t, g, w', cs, rfl, hA.same s19, G, hT.same s19, hL, fun H10 s10 => ?_⟩
    refine ⟨rfl, ?_⟩
    rw [decide_eq_true rfl]
    exact q H10 (s19.trans s10)
end
end M50
namespace Wlk
open PySem PyProof.Rows Srt Cyc Grd L2
theorem nu_find {z : Pl × Int} : ∀ {A : List Pl} {ns : List Int}, A.Nodup → z ∈ A.zip ns → ((A.zip ns).find? fun y => decide (y.1 = z.1)).map (·.2) = some z.2
 | [], ns, _, h => by rw [List.zip_nil_left] at h; cases h
 | a :: A, [], _, h => by rw [List.zip_nil_right] at h; cases h
 | a :: A, n :: ns, hn, h => by
  rw [List.zip_cons_cons] at h ⊢
  have hn' := List.nodup_cons.mp hn
  rcases List.mem_cons.mp h with e | e
  ·rw [List.find?_cons_of_pos (by rw [e]; simp), e]; rfl
  ·have h1 : z.1 ∈ A := (List.of_mem_zip e).1
   have h2 : a ≠ z.1 := fun y => hn'.1 (y ▸ h1)
   rw [List.find?_cons_of_neg (by simpa using h2)]
   exact nu_find hn'.2 e
theorem nu_at {A : List Pl} {ns : List Int} (hn : A.Nodup) {z : Pl × Int} (h : z ∈ A.zip ns) : nuOf A ns z.1 = z.2 := by
 unfold nuOf
 rw [nu_find hn h]; rfl
theorem flt_nu {A : List Pl} {ns : List Int} (hn : A.Nodup) (hl : ns.length = A.length) (h : Int) : ((A.zip ns).filter fun z => decide (z.2 = h)).map (·.1) = A.filter fun d => decide (nuOf A ns d = h) := by
 have e1 : A = (A.zip ns).map (·.1) := (List.map_fst_zip (by omega)).symm
 conv => rhs; arg 2; rw [e1]
 rw [List.filter_map]
 congr 1
 refine List.filter_congr fun z hz => ?_
 show decide (z.2 = h) = decide (nuOf A ns z.1 = h)
 rw [nu_at hn hz]
end Wlk
namespace M50
open PySem L2 PyProof.Rows Grd Wlk Cyc Srt
noncomputable abbrev sAllSteps : Stmt := top 63
noncomputable abbrev sLaw : Stmt := top 64
noncomputable def stH (A : List Pl) (ns : List Int) (h : Int) : Int := ((stepsU (A.filter fun d => decide (nuOf A ns d = h))).length : Int)
noncomputable def sumH (A : List Pl) (ns : List Int) : Nat → Int
 | 0 => 0
 | i + 1 => sumH A ns i + stH A ns (0 + (i : Int))
noncomputable def spAllSteps : Sp := fun vs H Q _ => ∃ a n g w ns, vs = [.ref a, .ref n] ∧ GridAt H a g ∧ Good g w ∧ H n = some (.tup ((ns : List Int).map V.int)) ∧ ns.length = (gridF pos g).length ∧ ∀ H', Same H H' → Q (.int (sumH (gridF pos g) ns 4)) H'
section
variable {P : Program} {w : World} {K : PySem.W.Frag} {mg : Str → Option Value} {base : Heap}
noncomputable abbrev nAs : List Str := ["_law_mead_here", "_law_numbers", "_law_total", "_law_holder", "_law_land_here"]
theorem scAllSteps : FnScope nAs ["_law_mead_here", "_law_numbers"] (defScope sAllSteps) := ⟨rfl, rfl, rfl, by decide +kernel, rfl, by decide +kernel, by decide +kernel⟩
theorem ndAs : (["_law_cell_here", "_law_own", "_law_holder"] : List Str).Nodup := by decide +kernel
theorem ok_allSteps {f g1 g2 : Addr} {fd d1 d2 : FuncData} (F : Fun K "_law_all_steps" "_law_all_steps" sAllSteps f fd) (T : Txt mg) (T2 : Txt2 mg) (a1 : At P w K mg base CX0 1 "_law_cells" g1 d1 ["_law_mead_here"] (spGrid pos)) (a2 : At P w K mg base CX0 9 "steps_round" g2 d2 ["mead", "land"] spRound) : FnOk P w K mg base CX0 10 f fd ["_law_mead_here", "_law_numbers"] spAllSteps := by
  refine F.ok scAllSteps (fun vs H Q E h => ?_) (fun cdv A outer s H vs Q E hr h => ?_)
  · obtain ⟨a, n, g, w', ns, rfl, _⟩ := h; rfl
  · obtain ⟨a, n, g, w', ns, rfl, hA, G, hn, hl, q⟩ := h
    have nd := scAllSteps.nd
    refine ⟨_, pss_cons (ps_set (i := 2) nd rfl (Or.inl rfl) pe_int) <|
      pss_cons (ps_for PassesOwn.never rfl (pi_range1 rfl T2.range (pa_c pe_int pa_nil)) (pg_name (i := 3) nd rfl (Or.inr rfl))
        (pss_cons (ps_set (i := 4) nd rfl (Or.inl rfl) (pe_callTy call_tuple_of rfl T.tuple boot_tuple (pa_lc (pe_comp1 (defScope sAllSteps).names nAs ["_law_cell_here", "_law_own"] [("_law_holder", 3)] rfl (pi_zipM rfl T2.zip (pa_k (pe_call a1.ok (hr.mono (by decide)) rfl a1.nm a1.kp a1.bd .nil pass0 (pa_v (pv 0) pa_nil)) (pa_v (pv 1) pa_nil))) rfl rfl rfl (by decide +kernel)
            (fun Z => pg_tup rfl (pgs_cons (pg_name (i := 0) ndAs rfl (Or.inl rfl)) (pgs_cons (pg_name (i := 1) ndAs rfl (Or.inl rfl)) pgs_nil))) (fun Z => pts_one (pt_cmpR op_eq (pv 1) (pv 2) (nomark _))) (fun Z => pv 0)) pa_nil))) <|
         pss_one (ps_set (i := 2) nd rfl (Or.inl rfl) (pe_op op_add (pv 2) (pe_call a2.ok hr rfl a2.nm a2.kp a2.bd .nil pass0 (pa_v (pv 0) (pa_v (pv 4) pa_nil))))))) <|
      pss_one (ps_ret (pv 2)), ?_⟩
    refine ⟨4, rfl, by omega, by omega, ?_⟩
    have hnd := up_nd (gridF_up pos g)
    have h10 : (gridF pos g).length ≤ 10 := by rw [len_cells]; exact G.c10
    refine for_range (lo := 0) (n := (4 : Int).toNat) (fun i σ H' => (∃ o3 o4, σ = [some (.ref a), some (.ref n), some (.int (sumH (gridF pos g) ns i)), o3, o4]) ∧ Same H H') ⟨⟨_, _, rfl⟩, Same.refl _⟩ ?_ ?_
    · rintro i σ H' hi ⟨⟨o3, o4, rfl⟩, hs⟩
      refine ⟨_, rfl, a, g, w', rfl, hA.same hs, G, fun H2 lc ps hlc s2 hlc2 hP => ?_⟩
      have hpl : ps.length = (gridF pos g).length := Paired.length hP
      have s12 := hs.trans s2
      have hn2 := s12 _ _ hn
      refine ⟨_, rfl, lc, n, _, _, rfl, SqL.of hlc2, SqT.of hn2, fun Z l hl' => ?_⟩
      refine for_zip (xs := ps.map V.ref) (ys := ns.map V.int) (by rw [List.length_map, List.length_map]; omega)
        (fun j σ H' => (∃ o0 o1, σ = [o0, o1, some (.int (0 + (i : Int)))]) ∧ Same H2 H' ∧ ∃ qs, H' l = some (.lst ((qs : List Addr).map V.ref)) ∧ PlAt H' qs (((((gridF pos g).zip ns).take j).filter fun z => decide (z.2 = 0 + (i : Int))).map (·.1)) ∧ qs.length ≤ j)
        ⟨⟨_, _, rfl⟩, same_upd hl', [], by rw [upd_same]; rfl, .nil, Nat.zero_le _⟩ (fun j σ H' h => ⟨SqL.of (h.2.1 _ _ hlc2), SqT.of (h.2.1 _ _ hn2)⟩) ?_ ?_
      · rintro j x y pz σ H3 hx hy ⟨⟨o0, o1, rfl⟩, hs3, qs, hl3, hq3, hql⟩ hpz
        obtain ⟨b, hb, rfl⟩ := getR hx
        obtain ⟨c, hc, he⟩ := hP.at hb
        obtain ⟨m, hm, rfl⟩ : ∃ m, ns[j]? = some m ∧ V.int m = y := by
          rw [List.getElem?_map] at hy
          cases e : ns[j]? with
          | none => rw [e] at hy; cases hy
          | some m => rw [e] at hy; exact ⟨m, rfl, Option.some.inj hy⟩
        have s4 := same_upd (o := .tup [.ref b, .int m]) hpz
        have ez : ((gridF pos g).zip ns)[j]? = some (c, m) := List.getElem?_zip_eq_some.mpr ⟨hc, hm⟩
        have hjl : j < (gridF pos g).length := (List.getElem?_eq_some_iff.mp hc).1
        have et : (((((gridF pos g).zip ns).take (j + 1)).filter fun z => decide (z.2 = 0 + (i : Int))).map (·.1)) = (((((gridF pos g).zip ns).take j).filter fun z => decide (z.2 = 0 + (i : Int))).map (·.1)) ++ (if m = 0 + (i : Int) then [c] else []) := by
          rw [List.take_succ, ez, List.filter_append, List.map_append]
          congr 1
          by_cases z : m = 0 + (i : Int)
          · simp [z]
          · simp only [Option.toList, List.filter_cons, List.filter_nil, decide_eq_false z, if_neg z]; rfl
        rw [et]
        have hl4 := s4 _ _ hl3
        refine ⟨pz, _, rfl, SqT.of upd_same, rfl, _, _, rfl, _, _, rfl, rfl, ?_⟩
        refine ⟨_, rfl, _, rfl, rfl, _, rfl, ite2d (fun z => ?_) fun z => ?_⟩
        · rw [if_pos (V.int.inj z)]
          refine ⟨_, rfl, _, hl4, small1000 (by rw [List.length_map]; omega), ⟨_, _, rfl⟩, fun b' u e' => ?_, qs ++ [b], ?_, ?_, ?_⟩
          · rw [upd_ne (ne_of_none e' hl')]; exact s4 _ _ (hs3 _ _ e')
          · rw [upd_same, List.map_append]; rfl
          · exact PlAt.snoc (Paired.mapP hq3 fun _ _ z => PlA.put hl4 (s4 _ _ z)) (PlA.put hl4 (s4 _ _ (hs3 _ _ he)))
          · rw [List.length_append]; show _ + 1 ≤ _; omega
        · rw [if_neg (fun y => z (by rw [y])), List.append_nil]
          exact ⟨⟨_, _, rfl⟩, hs3.trans s4, qs, hl4, hq3.same s4, by omega⟩
      · rintro σ H3 ⟨⟨o0, o1, rfl⟩, hs3, qs, hl3, hq3, hql⟩
        have el : (ps.map V.ref).length = ((gridF pos g).zip ns).length := by rw [List.length_map, List.length_zip]; omega
        rw [el, List.take_of_length_le (Nat.le_refl _), flt_nu hnd hl] at hq3
        refine ⟨l, _, rfl, .inl ⟨SqL.of hl3, fun tt htt => ?_⟩⟩
        have s4 := same_upd (o := .tup (qs.map V.ref)) htt
        have s14 := (s12.trans hs3).trans s4
        refine ⟨_, rfl, _, rfl, _, rfl, a, tt, g, w', _, rfl, hA.same s14, G, ⟨qs, upd_same, hq3.same s4⟩, List.filter_sublist, fun H5 s5 => ?_⟩
        refine ⟨_, _, rfl, rfl, ⟨_, _, rfl⟩, s14.trans s5⟩
    · rintro σ H' ⟨⟨o3, o4, rfl⟩, hs⟩
      exact ⟨_, rfl, q H' hs⟩
end
end M50
namespace M50
open PySem L2 PyProof.Rows Grd Wlk Cyc Srt
noncomputable abbrev pas : Stmt := .Pass ⟨0, 0, 0, 0⟩
noncomputable abbrev cell1 : List Stmt := forBody ((defBody sLaw).getD 0 pas)
noncomputable def spLaw (K : PySem.W.Frag) : Sp := fun vs H Q _ => ∃ (a : Addr) (ns : List Int), vs = [.ref a] ∧ SqL K H a (ns.map V.int) ∧ ns.length ≤ 63 ∧ ∀ H', Q (.bl true) H'
noncomputable abbrev nLaw : List Str := ["_law_script", "_law_cell_here", "_law_pen_here", "_law_mead_here", "_law_cells_here", "_law_lands", "_law_numbers"]
theorem scLaw : FnScope nLaw ["_law_script"] (defScope sLaw) := ⟨rfl, rfl, rfl, by decide +kernel, rfl, by decide +kernel, by decide +kernel⟩
theorem ndL1 : (["_law_lap", "_law_mead_here", "_law_pen_here"] : List Str).Nodup := by decide +kernel
theorem ndL2 : (["_law_place", "_law_lands"] : List Str).Nodup := by decide +kernel
theorem ndL3 : (["_law_land_here", "_law_mead_here"] : List Str).Nodup := by decide +kernel
theorem ndL4 : (["_law_place", "_law_pen_here"] : List Str).Nodup := by decide +kernel
theorem cutV_mem {xs : List V} {lo hi : Option Int} {x : V} (h : x ∈ cutV xs lo hi) : x ∈ xs := List.mem_of_mem_drop (List.mem_of_mem_take h)
section
variable {P : Program} {w : World} {K : PySem.W.Frag} {mg : Str → Option Value} {base : Heap}
theorem law_cell {f gP gM gC gA gI gR gD gS gN gF : Addr} {dP dM dC dA dI dR dD dS dN dF : FuncData} (T : Txt mg) (T2 : Txt2 mg) (aP : At P w K mg base CX0 1 "_law_pen" gP dP ["_law_cell_here"] spPen) (aM : At P w K mg base CX0 2 "_law_mead" gM dM ["_law_pen_here", "_law_most"] spMeadL) (aC : At P w K mg base CX0 1 "_law_cells" gC dC ["_law_mead_here"] (spGrid pos)) (aA : At P w K mg base CX0 2 "_law_land" gA dA ["_law_pen_here", "_law_mead_here"] spLand) (aI : At P w K mg base CX0 6 "is_land" gI dI ["mead", "thing"] spIsLand) (aR : At P w K mg base CX0 10 "_law_right" gR dR ["_law_mead_here", "_law_land_here"] spRight) (aD : At P w K mg base CX0 1 "_law_draw" gD dD ["_law_pen_here", "_law_many"] spDraw) (aS : At P w K mg base CX0 10 "_law_all_steps" gS dS ["_law_mead_here", "_law_numbers"] spAllSteps) (aN : At P w K mg base CX0 9 "steps_round" gN dN ["mead", "land"] spRound) (aF : At P w K mg base CX0 9 "fences_of" gF dF ["dealt"] spFences)
  (cdv : Value) (A : Around) (outer : List Env) (s : Shared) (H : Hp) (E : XK) (hr : Room 10 (A.deeper (envOfC "law" (defScope sLaw) s.heap.objs.size f cdv))) :
  ∃ tt, PSs (cxOf CX0 P w K mg base nLaw "law" (defScope sLaw) f cdv A outer s H E).nox cell1 tt ∧ ∀ (c : Int) (x0 o2 o3 o4 o5 o6 : Option V) (H0 : Hp) (De : Ends),
   (∀ y2 y3 y4 y5 y6 H2, (∀ b o, H0 b = some o → H2 b = some o) → De.nx [x0, some (.int c), y2, y3, y4, y5, y6] H2) → tt De [x0, some (.int c), o2, o3, o4, o5, o6] H0 := by
 have nd := scLaw.nd
 have r1 : Room 1 _ := hr.mono (by decide)
 have r2 : Room 2 _ := hr.mono (by decide)
 have r6 : Room 6 _ := hr.mono (by decide)
 have r9 : Room 9 _ := hr.mono (by decide)
 refine ⟨_, pss_cons (ps_set (i := 2) nd rfl (Or.inr rfl) (pe_call aP.ok r1 rfl aP.nm aP.kp aP.bd .nil pass0 (pa_v (pv 1) pa_nil))) <|
  pss_cons (ps_set (i := 3) nd rfl (Or.inr rfl) (pe_call aM.ok r2 rfl aM.nm aM.kp aM.bd .nil pass0 (pa_v (pv 2) (pa_c pe_int pa_nil)))) <|
  pss_cons (ps_set (i := 4) nd rfl (Or.inl rfl) (pe_callTy call_tuple_of rfl T.tuple boot_tuple (pa_k (pe_call aC.ok r1 rfl aC.nm aC.kp aC.bd .nil pass0 (pa_v (pv 3) pa_nil)) pa_nil))) <|
  pss_cons (ps_set (i := 5) nd rfl (Or.inr rfl) (pe_op op_cat (pe_comp1 (defScope sLaw).names nLaw ["_law_lap"] [("_law_mead_here", 3), ("_law_pen_here", 2)] rfl (pi_range1 rfl T2.range (pa_c pe_int pa_nil)) rfl rfl rfl (by decide +kernel)
    (fun Z => pg_name (i := 0) ndL1 rfl (Or.inl rfl)) (fun Z => pts_nil) (fun Z => pe_call aA.ok r2 rfl aA.nm aA.kp aA.bd .nil pass0 (pa_v (pv 2) (pa_v (pv 1) pa_nil)))) (pe_lst (pa_t (pe_tup pa_nil) (pa_v (pv 4) pa_nil))))) <|
  pss_cons (ps_expr (pe_bm PySem.F.plainAttrs_list PySem.F.slot_list_append PySem.F.type_list_append mt_append (pv 5) (pa_k (pe_callTy call_tuple_of rfl T.tuple boot_tuple (pa_lc (pe_comp1 (defScope sLaw).names nLaw ["_law_place"] [("_law_lands", 5)] rfl (pi_tup (pv 4)) rfl rfl rfl (by decide +kernel)
    (fun Z => pg_name (i := 0) ndL2 rfl (Or.inl rfl)) (fun Z => pts_one (pt_cmpR (op_notInD 1 (hu1_of hr)) (pv 0) (pe_ix ix_list (pv 1) pe_int (fun _ _ => rfl)) rfl)) (fun Z => pv 0)) pa_nil)) pa_nil))) <|
  pss_cons (ps_if (pt_not (pt_val (pe_callB (call_all rfl) rfl T.all boot_all (pa_lc (pe_comp1 (defScope sLaw).names nLaw ["_law_land_here"] [("_law_mead_here", 3)] rfl (pi_list (pv 5)) rfl rfl rfl (by decide +kernel)
    (fun Z => pg_name (i := 0) ndL3 rfl (Or.inl rfl)) (fun Z => pts_nil) (fun Z => pe_and (pe_call aI.ok r6 rfl aI.nm aI.kp aI.bd .nil pass0 (pa_v (pv 1) (pa_v (pv 0) pa_nil))) (pe_one (pe_call aR.ok hr rfl aR.nm aR.kp aR.bd .nil pass0 (pa_v (pv 1) (pa_v (pv 0) pa_nil)))))) pa_nil)))) pss_never pss_nil) <|
  pss_cons (ps_set (i := 6) nd rfl (Or.inl rfl) (pe_callTy call_tuple_of rfl T.tuple boot_tuple (pa_lc (pe_comp1 (defScope sLaw).names nLaw ["_law_place"] [("_law_pen_here", 2)] rfl (pi_tup (pv 4)) rfl rfl rfl (by decide +kernel)
    (fun Z => pg_name (i := 0) ndL4 rfl (Or.inl rfl)) (fun Z => pts_nil) (fun Z => pe_call aD.ok r1 rfl aD.nm aD.kp aD.bd .nil pass0 (pa_v (pv 1) (pa_c pe_int pa_nil)))) pa_nil))) <|
  pss_one (ps_if (pt_cmpR op_ne (pe_call aS.ok hr rfl aS.nm aS.kp aS.bd .nil pass0 (pa_v (pv 3) (pa_v (pv 6) pa_nil))) (pe_op op_add (pe_call aN.ok r9 rfl aN.nm aN.kp aN.bd .nil pass0 (pa_v (pv 3) (pa_v (pv 4) pa_nil))) (pe_op op_mul pe_int (pe_callB call_len_seq rfl T.len PySem.boot_len (pa_k (pe_call aF.ok r9 rfl aF.nm aF.kp aF.bd .nil pass0 (pa_t (pe_tup (pa_v (pv 3) (pa_v (pv 6) pa_nil))) pa_nil)) pa_nil)))) (nomark _)) pss_never pss_nil), ?_⟩
 intro c x0 o2 o3 o4 o5 o6 H0 De k
 refine ⟨_, rfl, c, rfl, fun p H1 hp0 sp pen => ?_⟩
 refine ⟨_, rfl, p, rfl, pen, fun m g w' H2 st2 hA G => ?_⟩
 refine ⟨_, rfl, m, g, w', rfl, hA, G, fun H3 l0 ps hl0 s3 hl0' hP => ?_⟩
 refine ⟨l0, _, rfl, .inl ⟨SqL.of hl0', fun t5 ht5 => ?_⟩⟩
 have s4 := same_upd (o := .tup (ps.map V.ref)) ht5
 have hlen : ps.length = (gridF pos g).length := Paired.length hP
 have h10 : (gridF pos g).length ≤ 10 := by rw [len_cells]; exact G.c10
 have st4 : Stp p H1 (upd H3 t5 (.tup (ps.map V.ref))) := (st2.same s3).same s4
 have c4 : upd H3 t5 (.tup (ps.map V.ref)) t5 = some (.tup (ps.map V.ref)) := upd_same
 have P4 : PlAt (upd H3 t5 (.tup (ps.map V.ref))) ps (gridF pos g) := hP.same s4
 have A4 : GridAt (upd H3 t5 (.tup (ps.map V.ref))) m g := hA.same (s3.trans s4)
 generalize upd H3 t5 (.tup (ps.map V.ref)) = H4 at st4 c4 P4 A4
 have pen4 := st4.pen
 refine ⟨3, rfl, by omega, by omega, fun Z l hl => ?_⟩
 have npl : l ≠ p := pen_ne pen4 hl
 refine for_range (lo := 0) (n := (3 : Int).toNat) (fun i σ H' => (∃ o, σ = [o, some (.ref m), some (.ref p)]) ∧ Stp p H4 H' ∧ ∃ ts, H' l = some (.lst ((ts : List Addr).map V.ref)) ∧ ts.length = i ∧ ∀ t ∈ ts, ∃ cs, SqA H' t cs ∧ LandOf g cs)
  ⟨⟨_, rfl⟩, (Stp.refl pen4).updL hl pen4, [], by rw [upd_same]; rfl, rfl, fun t ht => (List.not_mem_nil ht).elim⟩ ?_ ?_
 ·rintro i σ H' hi ⟨⟨o, rfl⟩, st, ts, hl', hn, each⟩
  show tBodyC _ _ _ [some (.int (0 + (i : Int))), some (.ref m), some (.ref p)] H'
  refine ⟨_, rfl, _, rfl, p, m, g, w', rfl, st.pen, A4.ext (st.ext pen4), G, fun t cs H5 st5 hT hL => ?_⟩
  have hl5 := st5.keep _ _ npl hl'
  refine ⟨_, hl5, small1000 (by rw [List.length_map]; omega), ⟨_, rfl⟩, (st.trans st5).updL hl pen4, ts ++ [t], ?_, ?_, fun t' ht' => ?_⟩
  ·rw [upd_same, List.map_append]; rfl
  ·rw [List.length_append, hn]; rfl
  ·rcases List.mem_append.mp ht' with z | z
   ·obtain ⟨cs', h1, h2⟩ := each t' z
    exact ⟨cs', sqPut hl5 (SqA.ext h1 (st5.ext st.pen)), h2⟩
   ·rw [List.mem_singleton.mp z]; exact ⟨cs, sqPut hl5 hT, hL⟩
 ·rintro σ H5 ⟨_, st5, ts, hl5, hn5, each5⟩
  have hn5' : ts.length = 3 := hn5
  refine ⟨by show 0 ≤ sizeLine; decide, fun t4 ht4 => ?_⟩
  have s6 := same_upd (o := .tup []) ht4
  refine ⟨_, rfl, by show 2 ≤ sizeLine; decide, fun l2 hl2 => ?_⟩
  have s7 := same_upd (o := .lst [.ref t4, .ref t5]) hl2
  refine ⟨l, l2, _, _, rfl, rfl, s7 _ _ (s6 _ _ hl5), upd_same, by rw [sizeLine_eq, List.length_map, hn5']; show 3 + 2 ≤ 16777216; decide, fun lc hlc => ?_⟩
  have s8 := same_upd (o := .lst (ts.map V.ref ++ [.ref t4, .ref t5])) hlc
  have s58 := (s6.trans s7).trans s8
  have st8 : Stp p H4 _ := st5.same s58
  have hlc4 : H4 lc = none := stp_free pen4 (st5.same (s6.trans s7)) hlc
  have each8 : ∀ t ∈ ts ++ [t4, t5], ∃ cs, SqA (upd (upd (upd H5 t4 (.tup [])) l2 (.lst [.ref t4, .ref t5])) lc (.lst (ts.map V.ref ++ [.ref t4, .ref t5]))) t cs ∧ LandOf g cs := fun t ht => by
   rcases List.mem_append.mp ht with z | z
   ·obtain ⟨cs, h1, h2⟩ := each5 t z
    exact ⟨cs, h1.same s58, h2⟩
   ·simp only [List.mem_cons, List.not_mem_nil, or_false] at z
    rcases z with rfl | rfl
    ·exact ⟨[], ⟨[], s8 _ _ (s7 _ _ upd_same), .nil⟩, List.nil_sublist _⟩
    ·exact ⟨_, ⟨ps, (st8.ext pen4).tup _ _ c4, Paired.mapP P4 fun _ _ z => (st8.ext pen4).tup _ _ z⟩, List.Sublist.refl _⟩
  have b8 : upd (upd (upd H5 t4 (.tup [])) l2 (.lst [.ref t4, .ref t5])) lc (.lst (ts.map V.ref ++ [.ref t4, .ref t5])) lc = some (.lst ((ts ++ [t4, t5]).map V.ref)) := by rw [upd_same, List.map_append]; rfl
  generalize upd (upd (upd H5 t4 (.tup [])) l2 (.lst [.ref t4, .ref t5])) lc (.lst (ts.map V.ref ++ [.ref t4, .ref t5])) = H8 at st8 each8 b8
  have c8 := (st8.ext pen4).tup _ _ c4
  have P8 : PlAt H8 ps (gridF pos g) := Paired.mapP P4 fun _ _ z => (st8.ext pen4).tup _ _ z
  obtain ⟨t1, tr, ets⟩ : ∃ t1 tr, ts = t1 :: tr := by
   cases ts with
   | nil => cases hn5'
   | cons a r => exact ⟨a, r, rfl⟩
  obtain ⟨c1, ⟨q1, h11, h12⟩, hL1⟩ := each8 t1 (by rw [ets]; exact List.mem_append_left _ List.mem_cons_self)
  refine ⟨_, rfl, .inl ⟨rfl, _, SqL.of b8⟩, ?_⟩
  refine ⟨_, rfl, t5, rfl, ⟨_, SqT.of c8⟩, fun Z lr hlr => ?_⟩
  refine for_tup (K := K) (a := t5) (xs := ps.map V.ref) (fun i σ H' => (∃ o, σ = [o, some (.ref lc)]) ∧ Same H8 H' ∧ ∃ qs, H' lr = some (.lst ((qs : List Addr).map V.ref)) ∧ PlAt H' qs (((gridF pos g).take i).filter fun d => !decide (d ∈ c1)) ∧ qs.length ≤ i)
   ⟨⟨_, rfl⟩, same_upd hlr, [], by rw [upd_same]; rfl, .nil, Nat.zero_le _⟩ (fun i σ H' _ h => SqT.of (h.2.1 _ _ c8)) ?_ ?_
  ·rintro i x σ H' hx ⟨⟨o, rfl⟩, hs, qs, hq, hQ, hql⟩
   obtain ⟨pa, hpa, rfl⟩ := getR hx
   obtain ⟨d, hd, he⟩ := P8.at hpa
   have hi : i < ps.length := (List.getElem?_eq_some_iff.mp hpa).1
   have et : ((gridF pos g).take (i + 1)).filter (fun d => !decide (d ∈ c1)) = ((gridF pos g).take i).filter (fun d => !decide (d ∈ c1)) ++ (if d ∈ c1 then [] else [d]) := by
    rw [List.take_succ, hd, List.filter_append]
    congr 1
    by_cases z : d ∈ c1
    ·simp [z]
    ·simp [z]
   rw [et]
   show tBodyC _ _ _ [some (.ref pa), some (.ref lc)] H'
   refine ⟨_, rfl, _, rfl, lc, _, 0, .ref t1, rfl, rfl, SqL.of (hs _ _ b8), atI_nat (j := 0) (by rw [ets]; rfl), t1, _, _, rfl, .inl (hs _ _ h11), e3Pl (hs _ _ he) (PlAt.same h12 hs), _, rfl, ?_⟩
   rw [any_eqP]
   refine iteB (fun z' => ?_) fun z' => ?_
   ·have z : d ∉ c1 := by simpa using z'
    rw [if_neg z]
    refine ⟨_, rfl, _, hq, small1000 (by rw [List.length_map]; omega), ⟨_, rfl⟩, fun b' u e' => ?_, qs ++ [pa], ?_, ?_, ?_⟩
    ·rw [upd_ne (ne_of_none e' hlr)]; exact hs _ _ e'
    ·rw [upd_same, List.map_append]; rfl
    ·exact PlAt.snoc (Paired.mapP hQ fun _ _ z => PlA.put hq z) (PlA.put hq (hs _ _ he))
    ·rw [List.length_append]; show _ + 1 ≤ _; omega
   ·have z : d ∈ c1 := by simpa using z'
    rw [if_pos z, List.append_nil]
    exact ⟨⟨_, rfl⟩, hs, qs, hq, hQ, by omega⟩
  ·rintro σ H9 ⟨_, s9, qs, hq, hQ, _⟩
   rw [List.length_map, hlen, List.take_of_length_le (Nat.le_refl _)] at hQ
   refine ⟨lr, _, rfl, .inl ⟨SqL.of hq, fun t6 ht6 => ?_⟩⟩
   have s10 := same_upd (o := .tup (qs.map V.ref)) ht6
   have s810 := s9.trans s10
   have b10 := s810 _ _ b8
   refine ⟨lc, _, _, rfl, rfl, b10, small1000 (by rw [List.length_map, List.length_append, hn5']; show 3 + 2 ≤ 1000; decide), ?_⟩
   have st11 : Stp p H4 (upd (upd H9 t6 (.tup (qs.map V.ref))) lc (.lst ((ts ++ [t4, t5]).map V.ref ++ [.ref t6]))) := (st8.same s810).updL hlc4 pen4
   have b11 : upd (upd H9 t6 (.tup (qs.map V.ref))) lc (.lst ((ts ++ [t4, t5]).map V.ref ++ [.ref t6])) lc = some (.lst ((ts ++ [t4, t5] ++ [t6]).map V.ref)) := by rw [upd_same, List.map_append (l₂ := [t6])]; rfl
   have each11 : ∀ t ∈ ts ++ [t4, t5] ++ [t6], ∃ cs, SqA (upd (upd H9 t6 (.tup (qs.map V.ref))) lc (.lst ((ts ++ [t4, t5]).map V.ref ++ [.ref t6]))) t cs ∧ LandOf g cs := fun t ht => by
    rcases List.mem_append.mp ht with z | z
    ·obtain ⟨cs, h1, h2⟩ := each8 t z
     exact ⟨cs, sqPut b10 (h1.same s810), h2⟩
    ·rw [List.mem_singleton.mp z]
     exact ⟨_, sqPut b10 ⟨qs, upd_same, hQ.same s10⟩, List.filter_sublist⟩
   have hL6 : (ts ++ [t4, t5] ++ [t6]).length = 6 := by rw [List.length_append, List.length_append, hn5']; rfl
   generalize upd (upd H9 t6 (.tup (qs.map V.ref))) lc (.lst ((ts ++ [t4, t5]).map V.ref ++ [.ref t6])) = H11 at st11 b11 each11
   generalize ts ++ [t4, t5] ++ [t6] = L at b11 each11 hL6
   have A11 := A4.ext (st11.ext pen4)
   refine ⟨_, rfl, lc, rfl, ⟨_, SqL.of b11⟩, fun Z lq hlq => ?_⟩
   refine for_list (K := K) (a := lc) (xs := L.map V.ref) (fun i σ H' => (∃ o, σ = [o, some (.ref m)]) ∧ Same H11 H' ∧ H' lq = some (.lst ((L.take i).map fun _ => V.bl true))) ⟨⟨_, rfl⟩, same_upd hlq, by rw [upd_same]; rfl⟩ (fun i σ H' _ h => SqL.of (h.2.1 _ _ b11)) ?_ ?_
   ·rintro i x σ H' hx ⟨⟨o, rfl⟩, hs, hl'⟩
    obtain ⟨qa, hqa, rfl⟩ := getR hx
    obtain ⟨cs, hT, hL⟩ := each11 qa (List.mem_of_getElem? hqa)
    show tBodyC _ _ _ [some (.ref qa), some (.ref m)] H'
    refine ⟨_, rfl, _, rfl, m, qa, g, w', cs, rfl, A11.same hs, G, hT.same hs, hL, fun H13 s13 => ⟨_, rfl, iteT ?_⟩⟩
    have s1 := hs.trans s13
    refine ⟨_, rfl, _, rfl, m, qa, g, w', cs, rfl, A11.same s1, G, hT.same s1, hL, fun H14 s14 => ?_⟩
    refine ⟨_, s14 _ _ (s13 _ _ hl'), small1000 (by rw [List.length_map, List.length_take]; omega), ⟨_, rfl⟩, fun b' u e' => ?_, ?_⟩
    ·rw [upd_ne (ne_of_none e' hlq)]; exact s14 _ _ (s1 _ _ e')
    ·rw [upd_same, List.take_succ, hqa, List.map_append]; rfl
   ·rintro σ H12 ⟨_, s12, hl12⟩
    rw [List.length_map, List.take_of_length_le (Nat.le_refl _)] at hl12
    refine ⟨lq, L.map fun _ => true, rfl, SqL.of (by rw [hl12, List.map_map]; rfl), ?_⟩
    rw [all_true]
    refine ⟨_, rfl, iteF ?_⟩
    have st12 : Stp p H4 H12 := st11.same s12
    have pen12 := st12.pen
    have A12 := A4.ext (st12.ext pen4)
    have c12 := (st12.ext pen4).tup _ _ c4
    refine ⟨_, rfl, t5, rfl, ⟨_, SqT.of c12⟩, fun Z ln hln => ?_⟩
    have nln : ln ≠ p := pen_ne pen12 hln
    refine for_tup (K := K) (a := t5) (xs := ps.map V.ref) (fun i σ H' => (∃ o, σ = [o, some (.ref p)]) ∧ Stp p H12 H' ∧ ∃ ns, H' ln = some (.lst ((ns : List Int).map V.int)) ∧ ns.length = i ∧ ∀ x ∈ ns, 0 ≤ x ∧ x ≤ 3)
     ⟨⟨_, rfl⟩, (Stp.refl pen12).updL hln pen12, [], by rw [upd_same]; rfl, rfl, fun x hx => (List.not_mem_nil hx).elim⟩ (fun i σ H' _ h => SqT.of ((h.2.1.ext pen12).tup _ _ c12)) ?_ ?_
    ·rintro i x σ H' hx ⟨⟨o, rfl⟩, st, ns, hl', hn, each⟩
     obtain ⟨pa, hpa, rfl⟩ := getR hx
     have hi : i < ps.length := (List.getElem?_eq_some_iff.mp hpa).1
     show tBodyC _ _ _ [some (.ref pa), some (.ref p)] H'
     refine ⟨_, rfl, p, 4, rfl, st.pen, by decide, by decide, fun e H13 e0 e1 st13 => ?_⟩
     have hl13 := st13.keep _ _ nln hl'
     refine ⟨_, hl13, small1000 (by rw [List.length_map]; omega), ⟨_, rfl⟩, (st.trans st13).updL hln pen12, ns ++ [e], ?_, ?_, fun x hx => ?_⟩
     ·rw [upd_same, List.map_append]; rfl
     ·rw [List.length_append, hn]; rfl
     ·rcases List.mem_append.mp hx with z | z
      ·exact each x z
      ·rw [List.mem_singleton.mp z]; omega
    ·rintro σ H13 ⟨_, st13, ns, hl13, hn13, num⟩
     rw [List.length_map] at hn13
     refine ⟨ln, _, rfl, .inl ⟨SqL.of hl13, fun tn htn => ?_⟩⟩
     have s14 := same_upd (o := .tup (ns.map V.int)) htn
     have st14 : Stp p H4 (upd H13 tn (.tup (ns.map V.int))) := (st12.trans st13).same s14
     have n14 : upd H13 tn (.tup (ns.map V.int)) tn = some (.tup (ns.map V.int)) := upd_same
     generalize upd H13 tn (.tup (ns.map V.int)) = H14 at st14 n14
     have A14 := A4.ext (st14.ext pen4)
     have T14 : SqA H14 t5 (gridF pos g) := ⟨ps, (st14.ext pen4).tup _ _ c4, Paired.mapP P4 fun _ _ z => (st14.ext pen4).tup _ _ z⟩
     have hnl : ns.length = (gridF pos g).length := hn13.trans hlen
     refine ⟨_, rfl, _, rfl, m, tn, g, w', ns, rfl, A14, G, n14, hnl, fun H15 s15 => ?_⟩
     refine ⟨_, rfl, _, rfl, m, t5, g, w', _, rfl, A14.same s15, G, T14.same s15, List.Sublist.refl _, fun H16 s16 => ?_⟩
     have s1416 := s15.trans s16
     refine ⟨_, rfl, _, rfl, by show 2 ≤ sizeLine; decide, fun td htd => ?_⟩
     have s17 := same_upd (o := .tup [.ref m, .ref tn]) htd
     have s1417 := s1416.trans s17
     refine ⟨td, g, w', ns, rfl, ⟨G, ⟨m, tn, upd_same, A14.same s1417, s1417 _ _ n14⟩, hnl, num⟩, fun lf fs H18 hlf s18 hlf18 hfs => ?_⟩
     refine ⟨lf, _, rfl, .inl (SqL.of hlf18), _, _, rfl, rfl, .inl (by decide), _, _, rfl, rfl, ?_⟩
     have hnd := up_nd (gridF_up pos g)
     have key := holders_sum hnd (nuOf (gridF pos g) ns) fun d hd => by
      obtain ⟨i, hi, e⟩ := List.mem_iff_getElem.mp hd
      have hz : (d, ns[i]'(by omega)) ∈ (gridF pos g).zip ns := List.mem_iff_getElem.mpr ⟨i, by rw [List.length_zip]; omega, by rw [List.getElem_zip, e]⟩
      rw [nu_at hnd hz]
      have := num _ (List.getElem_mem (l := ns) (show i < ns.length by omega))
      dsimp only
      omega
     have e : sumH (gridF pos g) ns 4 = ((stepsU (gridF pos g)).length : Int) + 2 * (((fs.map V.ref).length : Nat) : Int) := by
      rw [List.length_map, hfs, ← key]
      unfold sumH sumH sumH sumH sumH stH
      simp
     refine ⟨rfl, _, rfl, ite2n (fun z => absurd (congrArg V.int e) z) fun _ => ?_⟩
     refine k _ _ _ _ _ _ fun b o eb => ?_
     have e1 := sp _ _ eb
     have bp : b ≠ p := ne_of_none eb hp0
     exact s18 _ _ (s1417 _ _ (st14.keep b o bp (st4.keep b o bp e1)))
theorem ok_law {f gE gP gM gC gA gI gR gD gS gN gF : Addr} {fd dE dP dM dC dA dI dR dD dS dN dF : FuncData} (F : Fun K "law" "law" sLaw f fd) (T : Txt mg) (T2 : Txt2 mg) (aE : At P w K mg base CX0 1 "_law_cell" gE dE ["_law_script", "_law_k"] (spCell K)) (aP : At P w K mg base CX0 1 "_law_pen" gP dP ["_law_cell_here"] spPen) (aM : At P w K mg base CX0 2 "_law_mead" gM dM ["_law_pen_here", "_law_most"] spMeadL) (aC : At P w K mg base CX0 1 "_law_cells" gC dC ["_law_mead_here"] (spGrid pos)) (aA : At P w K mg base CX0 2 "_law_land" gA dA ["_law_pen_here", "_law_mead_here"] spLand) (aI : At P w K mg base CX0 6 "is_land" gI dI ["mead", "thing"] spIsLand) (aR : At P w K mg base CX0 10 "_law_right" gR dR ["_law_mead_here", "_law_land_here"] spRight) (aD : At P w K mg base CX0 1 "_law_draw" gD dD ["_law_pen_here", "_law_many"] spDraw) (aS : At P w K mg base CX0 10 "_law_all_steps" gS dS ["_law_mead_here", "_law_numbers"] spAllSteps) (aN : At P w K mg base CX0 9 "steps_round" gN dN ["mead", "land"] spRound) (aF : At P w K mg base CX0 9 "fences_of" gF dF ["dealt"] spFences) : FnOk P w K mg base CX0 11 f fd ["_law_script"] (spLaw K) := by
 refine F.ok scLaw (fun vs H Q E h => ?_) (fun cdv A outer s H vs Q E hr h => ?_)
 ·obtain ⟨a, ns, rfl, _⟩ := h; rfl
 ·obtain ⟨a, ns, rfl, hS, hlen, q⟩ := h
  have nd := scLaw.nd
  have r1 : Room 1 _ := hr.mono (by decide)
  obtain ⟨tm, hm, rm⟩ := law_cell (f := f) T T2 aP aM aC aA aI aR aD aS aN aF cdv A outer s H E hr
  refine ⟨_, pss_cons (ps_for PassesOwn.never rfl (pi_list (pe_op op_cat (pe_lst (pa_k (pe_call aE.ok r1 rfl aE.nm aE.kp aE.bd .nil pass0 (pa_v (pv 0) (pa_c pe_int pa_nil))) pa_nil)) (pe_slice sl_list (pv 0) (po_some pe_int) (po_some pe_int)))) (pg_name (i := 1) nd rfl (Or.inl rfl)) hm) <|
   pss_one (ps_ret pe_bl), ?_⟩
  refine ⟨_, rfl, a, ns, 0, rfl, hS, by decide, fun c0 => ?_⟩
  refine ⟨by show 1 ≤ sizeLine; decide, fun l0 hl0 => ?_⟩
  have s0 := same_upd (o := .lst [.int c0]) hl0
  refine ⟨_, rfl, _, rfl, _, rfl, a, _, rfl, s0.seq hS, fun l1 hl1 => ?_⟩
  have s1 := same_upd (o := .lst (cutV (ns.map V.int) (some 1) (some 4))) hl1
  have hcl := cutV_length (ns.map V.int) (some 1) (some 4)
  rw [List.length_map] at hcl
  refine ⟨l0, l1, _, _, rfl, rfl, s1 _ _ upd_same, upd_same, by rw [sizeLine_eq]; show 1 + _ ≤ _; omega, fun lc hlc => ?_⟩
  refine ⟨lc, rfl, ⟨_, SqL.of upd_same⟩, ?_⟩
  refine for_list (K := K) (a := lc) (xs := [.int c0] ++ cutV (ns.map V.int) (some 1) (some 4)) (fun i σ H' => (∃ o1 o2 o3 o4 o5 o6, σ = [some (.ref a), o1, o2, o3, o4, o5, o6]) ∧ Same (upd (upd (upd H l0 (.lst [.int c0])) l1 (.lst (cutV (ns.map V.int) (some 1) (some 4)))) lc (.lst ([.int c0] ++ cutV (ns.map V.int) (some 1) (some 4)))) H')
   ⟨⟨_, _, _, _, _, _, rfl⟩, Same.refl _⟩ (fun i σ H' _ h => SqL.of (h.2 _ _ upd_same)) ?_ ?_
  ·rintro i y σ Ht hi ⟨⟨o1, o2, o3, o4, o5, o6, rfl⟩, hs⟩
   obtain ⟨c, rfl⟩ : ∃ c, y = V.int c := by
    rcases List.mem_append.mp (List.mem_of_getElem? hi) with z | z
    ·exact ⟨c0, List.mem_singleton.mp z⟩
    ·obtain ⟨c, _, e⟩ := List.mem_map.mp (cutV_mem z)
     exact ⟨c, e.symm⟩
   exact rm c _ _ _ _ _ _ Ht _ fun y2 y3 y4 y5 y6 H2 h2 => ⟨⟨_, _, _, _, _, _, rfl⟩, fun b o e => h2 b o (hs b o e)⟩
  ·rintro σ H' _
   exact q H'
end
end M50
namespace M50
open PySem L2 PyProof.Rows Grd
theorem len1 {us : List Value} (h : us.length = 1) : ∃ a, us = [a] := by
 match us, h with
 | [a], _ => exact ⟨a, rfl⟩
theorem len2 {us : List Value} (h : us.length = 2) : ∃ a b, us = [a, b] := by
 match us, h with
 | [a, b], _ => exact ⟨a, b, rfl⟩
theorem len3 {us : List Value} (h : us.length = 3) : ∃ a b c, us = [a, b, c] := by
 match us, h with
 | [a, b, c], _ => exact ⟨a, b, c, rfl⟩
theorem all_mk {l : PySem.W.OpenLaw} {w : World} {K : PySem.W.Frag} {h : Heap} {mg : Str → Option Value} {fa : Addr} {f0 f1 f2 f3 f4 f5 f6 f7 f8 f9 f10 f11 f12 f13 f14 f15 f16 f17 f18 f19 f20 f21 f22 f23 f24 f25 f26 f27 f28 f29 f30 f31 f32 f33 f34 f35 f36 f37 f38 f39 f40 f41 f42 f43 f44 f45 f46 : Addr} {od0 an0 od1 an1 od2 an2 od3 an3 od4 an4 od5 an5 od6 an6 od7 an7 od8 an8 od9 an9 od10 an10 od11 an11 od12 an12 od13 an13 od14 an14 od15 an15 od16 an16 od17 an17 od18 an18 od19 an19 od20 an20 od21 an21 od22 an22 od23 an23 od24 an24 od25 an25 od26 an26 od27 an27 od28 an28 od29 an29 od30 an30 od31 an31 od32 an32 od33 an33 od34 an34 od35 an35 od36 an36 od37 an37 od38 an38 od39 an39 od40 an40 od41 an41 od42 an42 od43 an43 od44 an44 od45 an45 od46 an46 : Option Addr} {sl0 sl1 sl2 sl3 sl4 sl5 sl6 sl7 sl8 sl9 sl10 sl11 sl12 sl13 sl14 sl15 sl16 sl17 sl18 sl19 sl20 sl21 sl22 sl23 sl24 sl25 sl26 sl27 sl28 sl29 sl30 sl31 sl32 sl33 sl34 sl35 sl36 sl37 sl38 sl39 sl40 sl41 sl42 sl43 sl44 sl45 sl46 : Array (Option Value)} {oc0 kV0 dc0 pm0 cd0 ct0 oc1 kV1 dc1 pm1 cd1 ct1 oc2 kV2 dc2 pm2 cd2 ct2 oc3 kV3 dc3 pm3 cd3 ct3 oc4 kV4 dc4 pm4 cd4 ct4 oc5 kV5 dc5 pm5 cd5 ct5 oc6 kV6 dc6 pm6 cd6 ct6 oc7 kV7 dc7 pm7 cd7 ct7 oc8 kV8 dc8 pm8 cd8 ct8 oc9 kV9 dc9 pm9 cd9 ct9 oc10 kV10 dc10 pm10 cd10 ct10 oc11 kV11 dc11 pm11 cd11 ct11 oc12 kV12 dc12 pm12 cd12 ct12 oc13 kV13 dc13 pm13 cd13 ct13 oc14 kV14 dc14 pm14 cd14 ct14 oc15 kV15 dc15 pm15 cd15 ct15 oc16 kV16 dc16 pm16 cd16 ct16 oc17 kV17 dc17 pm17 cd17 ct17 oc18 kV18 dc18 pm18 cd18 ct18 oc19 kV19 dc19 pm19 cd19 ct19 oc20 kV20 dc20 pm20 cd20 ct20 oc21 kV21 dc21 pm21 cd21 ct21 oc22 kV22 dc22 pm22 cd22 ct22 oc23 kV23 dc23 pm23 cd23 ct23 oc24 kV24 dc24 pm24 cd24 ct24 oc25 kV25 dc25 pm25 cd25 ct25 oc26 kV26 dc26 pm26 cd26 ct26 oc27 kV27 dc27 pm27 cd27 ct27 oc28 kV28 dc28 pm28 cd28 ct28 oc29 kV29 dc29 pm29 cd29 ct29 oc30 kV30 dc30 pm30 cd30 ct30 oc31 kV31 dc31 pm31 cd31 ct31 oc32 kV32 dc32 pm32 cd32 ct32 oc33 kV33 dc33 pm33 cd33 ct33 oc34 kV34 dc34 pm34 cd34 ct34 oc35 kV35 dc35 pm35 cd35 ct35 oc36 kV36 dc36 pm36 cd36 ct36 oc37 kV37 dc37 pm37 cd37 ct37 oc38 kV38 dc38 pm38 cd38 ct38 oc39 kV39 dc39 pm39 cd39 ct39 oc40 kV40 dc40 pm40 cd40 ct40 oc41 kV41 dc41 pm41 cd41 ct41 oc42 kV42 dc42 pm42 cd42 ct42 oc43 kV43 dc43 pm43 cd43 ct43 oc44 kV44 dc44 pm44 cd44 ct44 oc45 kV45 dc45 pm45 cd45 ct45 oc46 kV46 dc46 pm46 cd46 ct46 : Value} {t0 t1 t2 t3 t4 t5 : Tok} (X : K.In h) (G : h.Ns mainGlobals mg) (hfa : mg "law" = some (.ref fa))
  (a0 : PySem.W.nsIn K mainGlobals "is_number" = some (some (.ref f0)))
  (l0 : K.lookup f0 = some ⟨oc0, od0, .func (PySem.W.fnOf "is_number" "is_number" (defArgs sNumber) (defBody sNumber) (defScope sNumber) .none kV0 dc0 pm0 an0 cd0 ct0), sl0⟩)
  (c0 : PySem.W.codeIn K cd0 "is_number" = true)
  (k0 : PySem.W.keepIn K (.ref f0) = true)
  (a1 : PySem.W.nsIn K mainGlobals "is_number_within" = some (some (.ref f1)))
  (l1 : K.lookup f1 = some ⟨oc1, od1, .func (PySem.W.fnOf "is_number_within" "is_number_within" (defArgs sWithin) (defBody sWithin) (defScope sWithin) .none kV1 dc1 pm1 an1 cd1 ct1), sl1⟩)
  (c1 : PySem.W.codeIn K cd1 "is_number_within" = true)
  (k1 : PySem.W.keepIn K (.ref f1) = true)
  (a2 : PySem.W.nsIn K mainGlobals "is_tuple_within" = some (some (.ref f2)))
  (l2 : K.lookup f2 = some ⟨oc2, od2, .func (PySem.W.fnOf "is_tuple_within" "is_tuple_within" (defArgs sTuple) (defBody sTuple) (defScope sTuple) .none kV2 dc2 pm2 an2 cd2 ct2), sl2⟩)
  (c2 : PySem.W.codeIn K cd2 "is_tuple_within" = true)
  (k2 : PySem.W.keepIn K (.ref f2) = true)
  (a3 : PySem.W.nsIn K mainGlobals "is_pair_of_numbers" = some (some (.ref f3)))
  (l3 : K.lookup f3 = some ⟨oc3, od3, .func (PySem.W.fnOf "is_pair_of_numbers" "is_pair_of_numbers" (defArgs sPair) (defBody sPair) (defScope sPair) .none kV3 dc3 pm3 an3 cd3 ct3), sl3⟩)
  (c3 : PySem.W.codeIn K cd3 "is_pair_of_numbers" = true)
  (k3 : PySem.W.keepIn K (.ref f3) = true)
  (a4 : PySem.W.nsIn K mainGlobals "is_rising" = some (some (.ref f4)))
  (l4 : K.lookup f4 = some ⟨oc4, od4, .func (PySem.W.fnOf "is_rising" "is_rising" (defArgs sRising) (defBody sRising) (defScope sRising) .none kV4 dc4 pm4 an4 cd4 ct4), sl4⟩)
  (c4 : PySem.W.codeIn K cd4 "is_rising" = true)
  (k4 : PySem.W.keepIn K (.ref f4) = true)
  (a5 : PySem.W.nsIn K mainGlobals "is_row" = some (some (.ref f5)))
  (l5 : K.lookup f5 = some ⟨oc5, od5, .func (PySem.W.fnOf "is_row" "is_row" (defArgs sRow) (defBody sRow) (defScope sRow) .none kV5 dc5 pm5 an5 cd5 ct5), sl5⟩)
  (c5 : PySem.W.codeIn K cd5 "is_row" = true)
  (k5 : PySem.W.keepIn K (.ref f5) = true)
  (a6 : PySem.W.nsIn K mainGlobals "is_mead" = some (some (.ref f6)))
  (l6 : K.lookup f6 = some ⟨oc6, od6, .func (PySem.W.fnOf "is_mead" "is_mead" (defArgs sMead) (defBody sMead) (defScope sMead) .none kV6 dc6 pm6 an6 cd6 ct6), sl6⟩)
  (c6 : PySem.W.codeIn K cd6 "is_mead" = true)
  (k6 : PySem.W.keepIn K (.ref f6) = true)
  (a7 : PySem.W.nsIn K mainGlobals "check_mead" = some (some (.ref f7)))
  (l7 : K.lookup f7 = some ⟨oc7, od7, .func (PySem.W.fnOf "check_mead" "check_mead" (defArgs sCheck) (defBody sCheck) (defScope sCheck) .none kV7 dc7 pm7 an7 cd7 ct7), sl7⟩)
  (c7 : PySem.W.codeIn K cd7 "check_mead" = true)
  (k7 : PySem.W.keepIn K (.ref f7) = true)
  (a8 : PySem.W.nsIn K mainGlobals "places_of_cells" = some (some (.ref f8)))
  (l8 : K.lookup f8 = some ⟨oc8, od8, .func (PySem.W.fnOf "places_of_cells" "places_of_cells" (defArgs sPlaces) (defBody sPlaces) (defScope sPlaces) .none kV8 dc8 pm8 an8 cd8 ct8), sl8⟩)
  (c8 : PySem.W.codeIn K cd8 "places_of_cells" = true)
  (k8 : PySem.W.keepIn K (.ref f8) = true)
  (a9 : PySem.W.nsIn K mainGlobals "cells_of" = some (some (.ref f9)))
  (l9 : K.lookup f9 = some ⟨oc9, od9, .func (PySem.W.fnOf "cells_of" "cells_of" (defArgs sCellsOf) (defBody sCellsOf) (defScope sCellsOf) .none kV9 dc9 pm9 an9 cd9 ct9), sl9⟩)
  (c9 : PySem.W.codeIn K cd9 "cells_of" = true)
  (k9 : PySem.W.keepIn K (.ref f9) = true)
  (a10 : PySem.W.nsIn K mainGlobals "is_cell" = some (some (.ref f10)))
  (l10 : K.lookup f10 = some ⟨oc10, od10, .func (PySem.W.fnOf "is_cell" "is_cell" (defArgs sIsCell) (defBody sIsCell) (defScope sIsCell) .none kV10 dc10 pm10 an10 cd10 ct10), sl10⟩)
  (c10 : PySem.W.codeIn K cd10 "is_cell" = true)
  (k10 : PySem.W.keepIn K (.ref f10) = true)
  (a11 : PySem.W.nsIn K mainGlobals "places_beside" = some (some (.ref f11)))
  (l11 : K.lookup f11 = some ⟨oc11, od11, .func (PySem.W.fnOf "places_beside" "places_beside" (defArgs sBeside) (defBody sBeside) (defScope sBeside) .none kV11 dc11 pm11 an11 cd11 ct11), sl11⟩)
  (c11 : PySem.W.codeIn K cd11 "places_beside" = true)
  (k11 : PySem.W.keepIn K (.ref f11) = true)
  (a12 : PySem.W.nsIn K mainGlobals "is_land" = some (some (.ref f12)))
  (l12 : K.lookup f12 = some ⟨oc12, od12, .func (PySem.W.fnOf "is_land" "is_land" (defArgs sIsLand) (defBody sIsLand) (defScope sIsLand) .none kV12 dc12 pm12 an12 cd12 ct12), sl12⟩)
  (c12 : PySem.W.codeIn K cd12 "is_land" = true)
  (k12 : PySem.W.keepIn K (.ref f12) = true)
  (a13 : PySem.W.nsIn K mainGlobals "check_land" = some (some (.ref f13)))
  (l13 : K.lookup f13 = some ⟨oc13, od13, .func (PySem.W.fnOf "check_land" "check_land" (defArgs sChkLand) (defBody sChkLand) (defScope sChkLand) .none kV13 dc13 pm13 an13 cd13 ct13), sl13⟩)
  (c13 : PySem.W.codeIn K cd13 "check_land" = true)
  (k13 : PySem.W.keepIn K (.ref f13) = true)
  (a14 : PySem.W.nsIn K mainGlobals "piece_round" = some (some (.ref f14)))
  (l14 : K.lookup f14 = some ⟨oc14, od14, .func (PySem.W.fnOf "piece_round" "piece_round" (defArgs sPieceR) (defBody sPieceR) (defScope sPieceR) .none kV14 dc14 pm14 an14 cd14 ct14), sl14⟩)
  (c14 : PySem.W.codeIn K cd14 "piece_round" = true)
  (k14 : PySem.W.keepIn K (.ref f14) = true)
  (a15 : PySem.W.nsIn K mainGlobals "pieces_of" = some (some (.ref f15)))
  (l15 : K.lookup f15 = some ⟨oc15, od15, .func (PySem.W.fnOf "pieces_of" "pieces_of" (defArgs sPieces) (defBody sPieces) (defScope sPieces) .none kV15 dc15 pm15 an15 cd15 ct15), sl15⟩)
  (c15 : PySem.W.codeIn K cd15 "pieces_of" = true)
  (k15 : PySem.W.keepIn K (.ref f15) = true)
  (a16 : PySem.W.nsIn K mainGlobals "sides_of" = some (some (.ref f16)))
  (l16 : K.lookup f16 = some ⟨oc16, od16, .func (PySem.W.fnOf "sides_of" "sides_of" (defArgs sSides) (defBody sSides) (defScope sSides) .none kV16 dc16 pm16 an16 cd16 ct16), sl16⟩)
  (c16 : PySem.W.codeIn K cd16 "sides_of" = true)
  (k16 : PySem.W.keepIn K (.ref f16) = true)
  (a17 : PySem.W.nsIn K mainGlobals "steps_along" = some (some (.ref f17)))
  (l17 : K.lookup f17 = some ⟨oc17, od17, .func (PySem.W.fnOf "steps_along" "steps_along" (defArgs sAlong) (defBody sAlong) (defScope sAlong) .none kV17 dc17 pm17 an17 cd17 ct17), sl17⟩)
  (c17 : PySem.W.codeIn K cd17 "steps_along" = true)
  (k17 : PySem.W.keepIn K (.ref f17) = true)
  (a18 : PySem.W.nsIn K mainGlobals "step_behind" = some (some (.ref f18)))
  (l18 : K.lookup f18 = some ⟨oc18, od18, .func (PySem.W.fnOf "step_behind" "step_behind" (defArgs sBehind) (defBody sBehind) (defScope sBehind) .none kV18 dc18 pm18 an18 cd18 ct18), sl18⟩)
  (c18 : PySem.W.codeIn K cd18 "step_behind" = true)
  (k18 : PySem.W.keepIn K (.ref f18) = true)
  (a19 : PySem.W.nsIn K mainGlobals "steps_from" = some (some (.ref f19)))
  (l19 : K.lookup f19 = some ⟨oc19, od19, .func (PySem.W.fnOf "steps_from" "steps_from" (defArgs sFrom) (defBody sFrom) (defScope sFrom) .none kV19 dc19 pm19 an19 cd19 ct19), sl19⟩)
  (c19 : PySem.W.codeIn K cd19 "steps_from" = true)
  (k19 : PySem.W.keepIn K (.ref f19) = true)
  (a20 : PySem.W.nsIn K mainGlobals "walks_along" = some (some (.ref f20)))
  (l20 : K.lookup f20 = some ⟨oc20, od20, .func (PySem.W.fnOf "walks_along" "walks_along" (defArgs sWalks) (defBody sWalks) (defScope sWalks) .none kV20 dc20 pm20 an20 cd20 ct20), sl20⟩)
  (c20 : PySem.W.codeIn K cd20 "walks_along" = true)
  (k20 : PySem.W.keepIn K (.ref f20) = true)
  (a21 : PySem.W.nsIn K mainGlobals "walks_of" = some (some (.ref f21)))
  (l21 : K.lookup f21 = some ⟨oc21, od21, .func (PySem.W.fnOf "walks_of" "walks_of" (defArgs sWalksOf) (defBody sWalksOf) (defScope sWalksOf) .none kV21 dc21 pm21 an21 cd21 ct21), sl21⟩)
  (c21 : PySem.W.codeIn K cd21 "walks_of" = true)
  (k21 : PySem.W.keepIn K (.ref f21) = true)
  (a22 : PySem.W.nsIn K mainGlobals "steps_round" = some (some (.ref f22)))
  (l22 : K.lookup f22 = some ⟨oc22, od22, .func (PySem.W.fnOf "steps_round" "steps_round" (defArgs sRound) (defBody sRound) (defScope sRound) .none kV22 dc22 pm22 an22 cd22 ct22), sl22⟩)
  (c22 : PySem.W.codeIn K cd22 "steps_round" = true)
  (k22 : PySem.W.keepIn K (.ref f22) = true)
  (a23 : PySem.W.nsIn K mainGlobals "is_walk" = some (some (.ref f23)))
  (l23 : K.lookup f23 = some ⟨oc23, od23, .func (PySem.W.fnOf "is_walk" "is_walk" (defArgs sIsWalk) (defBody sIsWalk) (defScope sIsWalk) .none kV23 dc23 pm23 an23 cd23 ct23), sl23⟩)
  (c23 : PySem.W.codeIn K cd23 "is_walk" = true)
  (k23 : PySem.W.keepIn K (.ref f23) = true)
  (a24 : PySem.W.nsIn K mainGlobals "are_walks" = some (some (.ref f24)))
  (l24 : K.lookup f24 = some ⟨oc24, od24, .func (PySem.W.fnOf "are_walks" "are_walks" (defArgs sAreWalks) (defBody sAreWalks) (defScope sAreWalks) .none kV24 dc24 pm24 an24 cd24 ct24), sl24⟩)
  (c24 : PySem.W.codeIn K cd24 "are_walks" = true)
  (k24 : PySem.W.keepIn K (.ref f24) = true)
  (a25 : PySem.W.nsIn K mainGlobals "walks_hold" = some (some (.ref f25)))
  (l25 : K.lookup f25 = some ⟨oc25, od25, .func (PySem.W.fnOf "walks_hold" "walks_hold" (defArgs sHold) (defBody sHold) (defScope sHold) .none kV25 dc25 pm25 an25 cd25 ct25), sl25⟩)
  (c25 : PySem.W.codeIn K cd25 "walks_hold" = true)
  (k25 : PySem.W.keepIn K (.ref f25) = true)
  (a26 : PySem.W.nsIn K mainGlobals "steps_in" = some (some (.ref f26)))
  (l26 : K.lookup f26 = some ⟨oc26, od26, .func (PySem.W.fnOf "steps_in" "steps_in" (defArgs sStepsIn) (defBody sStepsIn) (defScope sStepsIn) .none kV26 dc26 pm26 an26 cd26 ct26), sl26⟩)
  (c26 : PySem.W.codeIn K cd26 "steps_in" = true)
  (k26 : PySem.W.keepIn K (.ref f26) = true)
  (a27 : PySem.W.nsIn K mainGlobals "is_within" = some (some (.ref f27)))
  (l27 : K.lookup f27 = some ⟨oc27, od27, .func (PySem.W.fnOf "is_within" "is_within" (defArgs sWithin2) (defBody sWithin2) (defScope sWithin2) .none kV27 dc27 pm27 an27 cd27 ct27), sl27⟩)
  (c27 : PySem.W.codeIn K cd27 "is_within" = true)
  (k27 : PySem.W.keepIn K (.ref f27) = true)
  (a28 : PySem.W.nsIn K mainGlobals "cells_within" = some (some (.ref f28)))
  (l28 : K.lookup f28 = some ⟨oc28, od28, .func (PySem.W.fnOf "cells_within" "cells_within" (defArgs sCellsIn) (defBody sCellsIn) (defScope sCellsIn) .none kV28 dc28 pm28 an28 cd28 ct28), sl28⟩)
  (c28 : PySem.W.codeIn K cd28 "cells_within" = true)
  (k28 : PySem.W.keepIn K (.ref f28) = true)
  (a29 : PySem.W.nsIn K mainGlobals "check_walks" = some (some (.ref f29)))
  (l29 : K.lookup f29 = some ⟨oc29, od29, .func (PySem.W.fnOf "check_walks" "check_walks" (defArgs sChkWalks) (defBody sChkWalks) (defScope sChkWalks) .none kV29 dc29 pm29 an29 cd29 ct29), sl29⟩)
  (c29 : PySem.W.codeIn K cd29 "check_walks" = true)
  (k29 : PySem.W.keepIn K (.ref f29) = true)
  (a30 : PySem.W.nsIn K mainGlobals "land_in" = some (some (.ref f30)))
  (l30 : K.lookup f30 = some ⟨oc30, od30, .func (PySem.W.fnOf "land_in" "land_in" (defArgs sLandIn) (defBody sLandIn) (defScope sLandIn) .none kV30 dc30 pm30 an30 cd30 ct30), sl30⟩)
  (c30 : PySem.W.codeIn K cd30 "land_in" = true)
  (k30 : PySem.W.keepIn K (.ref f30) = true)
  (a31 : PySem.W.nsIn K mainGlobals "twice_area" = some (some (.ref f31)))
  (l31 : K.lookup f31 = some ⟨oc31, od31, .func (PySem.W.fnOf "twice_area" "twice_area" (defArgs sArea) (defBody sArea) (defScope sArea) .none kV31 dc31 pm31 an31 cd31 ct31), sl31⟩)
  (c31 : PySem.W.codeIn K cd31 "twice_area" = true)
  (k31 : PySem.W.keepIn K (.ref f31) = true)
  (a32 : PySem.W.nsIn K mainGlobals "is_dealt" = some (some (.ref f32)))
  (l32 : K.lookup f32 = some ⟨oc32, od32, .func (PySem.W.fnOf "is_dealt" "is_dealt" (defArgs sIsDealt) (defBody sIsDealt) (defScope sIsDealt) .none kV32 dc32 pm32 an32 cd32 ct32), sl32⟩)
  (c32 : PySem.W.codeIn K cd32 "is_dealt" = true)
  (k32 : PySem.W.keepIn K (.ref f32) = true)
  (a33 : PySem.W.nsIn K mainGlobals "check_dealt" = some (some (.ref f33)))
  (l33 : K.lookup f33 = some ⟨oc33, od33, .func (PySem.W.fnOf "check_dealt" "check_dealt" (defArgs sChkDealt) (defBody sChkDealt) (defScope sChkDealt) .none kV33 dc33 pm33 an33 cd33 ct33), sl33⟩)
  (c33 : PySem.W.codeIn K cd33 "check_dealt" = true)
  (k33 : PySem.W.keepIn K (.ref f33) = true)
  (a34 : PySem.W.nsIn K mainGlobals "seams_of" = some (some (.ref f34)))
  (l34 : K.lookup f34 = some ⟨oc34, od34, .func (PySem.W.fnOf "seams_of" "seams_of" (defArgs sSeams) (defBody sSeams) (defScope sSeams) .none kV34 dc34 pm34 an34 cd34 ct34), sl34⟩)
  (c34 : PySem.W.codeIn K cd34 "seams_of" = true)
  (k34 : PySem.W.keepIn K (.ref f34) = true)
  (a35 : PySem.W.nsIn K mainGlobals "fences_of" = some (some (.ref f35)))
  (l35 : K.lookup f35 = some ⟨oc35, od35, .func (PySem.W.fnOf "fences_of" "fences_of" (defArgs sFences) (defBody sFences) (defScope sFences) .none kV35 dc35 pm35 an35 cd35 ct35), sl35⟩)
  (c35 : PySem.W.codeIn K cd35 "fences_of" = true)
  (k35 : PySem.W.keepIn K (.ref f35) = true)
  (a36 : PySem.W.nsIn K mainGlobals "_law_cell" = some (some (.ref f36)))
  (l36 : K.lookup f36 = some ⟨oc36, od36, .func (PySem.W.fnOf "_law_cell" "_law_cell" (defArgs sCell) (defBody sCell) (defScope sCell) .none kV36 dc36 pm36 an36 cd36 ct36), sl36⟩)
  (c36 : PySem.W.codeIn K cd36 "_law_cell" = true)
  (k36 : PySem.W.keepIn K (.ref f36) = true)
  (a37 : PySem.W.nsIn K mainGlobals "_law_pen" = some (some (.ref f37)))
  (l37 : K.lookup f37 = some ⟨oc37, od37, .func (PySem.W.fnOf "_law_pen" "_law_pen" (defArgs sPen) (defBody sPen) (defScope sPen) .none kV37 dc37 pm37 an37 cd37 ct37), sl37⟩)
  (c37 : PySem.W.codeIn K cd37 "_law_pen" = true)
  (k37 : PySem.W.keepIn K (.ref f37) = true)
  (a38 : PySem.W.nsIn K mainGlobals "_law_draw" = some (some (.ref f38)))
  (l38 : K.lookup f38 = some ⟨oc38, od38, .func (PySem.W.fnOf "_law_draw" "_law_draw" (defArgs sDraw) (defBody sDraw) (defScope sDraw) .none kV38 dc38 pm38 an38 cd38 ct38), sl38⟩)
  (c38 : PySem.W.codeIn K cd38 "_law_draw" = true)
  (k38 : PySem.W.keepIn K (.ref f38) = true)
  (a39 : PySem.W.nsIn K mainGlobals "_law_mead" = some (some (.ref f39)))
  (l39 : K.lookup f39 = some ⟨oc39, od39, .func (PySem.W.fnOf "_law_mead" "_law_mead" (defArgs sMeadL) (defBody sMeadL) (defScope sMeadL) .none kV39 dc39 pm39 an39 cd39 ct39), sl39⟩)
  (c39 : PySem.W.codeIn K cd39 "_law_mead" = true)
  (k39 : PySem.W.keepIn K (.ref f39) = true)
  (a40 : PySem.W.nsIn K mainGlobals "_law_cells" = some (some (.ref f40)))
  (l40 : K.lookup f40 = some ⟨oc40, od40, .func (PySem.W.fnOf "_law_cells" "_law_cells" (defArgs sLCells) (defBody sLCells) (defScope sLCells) .none kV40 dc40 pm40 an40 cd40 ct40), sl40⟩)
  (c40 : PySem.W.codeIn K cd40 "_law_cells" = true)
  (k40 : PySem.W.keepIn K (.ref f40) = true)
  (a41 : PySem.W.nsIn K mainGlobals "_law_land" = some (some (.ref f41)))
  (l41 : K.lookup f41 = some ⟨oc41, od41, .func (PySem.W.fnOf "_law_land" "_law_land" (defArgs sLand) (defBody sLand) (defScope sLand) .none kV41 dc41 pm41 an41 cd41 ct41), sl41⟩)
  (c41 : PySem.W.codeIn K cd41 "_law_land" = true)
  (k41 : PySem.W.keepIn K (.ref f41) = true)
  (a42 : PySem.W.nsIn K mainGlobals "_law_on_hands" = some (some (.ref f42)))
  (l42 : K.lookup f42 = some ⟨oc42, od42, .func (PySem.W.fnOf "_law_on_hands" "_law_on_hands" (defArgs sHands) (defBody sHands) (defScope sHands) .none kV42 dc42 pm42 an42 cd42 ct42), sl42⟩)
  (c42 : PySem.W.codeIn K cd42 "_law_on_hands" = true)
  (k42 : PySem.W.keepIn K (.ref f42) = true)
  (a43 : PySem.W.nsIn K mainGlobals "_law_closes" = some (some (.ref f43)))
  (l43 : K.lookup f43 = some ⟨oc43, od43, .func (PySem.W.fnOf "_law_closes" "_law_closes" (defArgs sCloses) (defBody sCloses) (defScope sCloses) .none kV43 dc43 pm43 an43 cd43 ct43), sl43⟩)
  (c43 : PySem.W.codeIn K cd43 "_law_closes" = true)
  (k43 : PySem.W.keepIn K (.ref f43) = true)
  (a44 : PySem.W.nsIn K mainGlobals "_law_right" = some (some (.ref f44)))
  (l44 : K.lookup f44 = some ⟨oc44, od44, .func (PySem.W.fnOf "_law_right" "_law_right" (defArgs sRight) (defBody sRight) (defScope sRight) .none kV44 dc44 pm44 an44 cd44 ct44), sl44⟩)
  (c44 : PySem.W.codeIn K cd44 "_law_right" = true)
  (k44 : PySem.W.keepIn K (.ref f44) = true)
  (a45 : PySem.W.nsIn K mainGlobals "_law_all_steps" = some (some (.ref f45)))
  (l45 : K.lookup f45 = some ⟨oc45, od45, .func (PySem.W.fnOf "_law_all_steps" "_law_all_steps" (defArgs sAllSteps) (defBody sAllSteps) (defScope sAllSteps) .none kV45 dc45 pm45 an45 cd45 ct45), sl45⟩)
  (c45 : PySem.W.codeIn K cd45 "_law_all_steps" = true)
  (k45 : PySem.W.keepIn K (.ref f45) = true)
  (a46 : PySem.W.nsIn K mainGlobals "law" = some (some (.ref f46)))
  (l46 : K.lookup f46 = some ⟨oc46, od46, .func (PySem.W.fnOf "law" "law" (defArgs sLaw) (defBody sLaw) (defScope sLaw) .none kV46 dc46 pm46 an46 cd46 ct46), sl46⟩)
  (c46 : PySem.W.codeIn K cd46 "law" = true)
  (k46 : PySem.W.keepIn K (.ref f46) = true)
  (v0 : PySem.W.nsIn K mainGlobals "MOST_ROWS" = some (some (.int 4 t0)))
  (v1 : PySem.W.nsIn K mainGlobals "MOST_COLUMNS" = some (some (.int 6 t1)))
  (v2 : PySem.W.nsIn K mainGlobals "MOST_CELLS" = some (some (.int 10 t2)))
  (v3 : PySem.W.nsIn K mainGlobals "MOST_WORTH" = some (some (.int 99 t3)))
  (v4 : PySem.W.nsIn K mainGlobals "WATER" = some (some (.int (-2) t4)))
  (v5 : PySem.W.nsIn K mainGlobals "MOST_HOLDERS" = some (some (.int 4 t5)))
  (z0 : PySem.W.nsIn K mainGlobals "isinstance" = some none)
  (z1 : PySem.W.nsIn K mainGlobals "int" = some none)
  (z2 : PySem.W.nsIn K mainGlobals "bool" = some none)
  (z3 : PySem.W.nsIn K mainGlobals "tuple" = some none)
  (z4 : PySem.W.nsIn K mainGlobals "len" = some none)
  (z5 : PySem.W.nsIn K mainGlobals "all" = some none)
  (z6 : PySem.W.nsIn K mainGlobals "enumerate" = some none)
  (z7 : PySem.W.nsIn K mainGlobals "range" = some none)
  (z8 : PySem.W.nsIn K mainGlobals "list" = some none)
  (z9 : PySem.W.nsIn K mainGlobals "zip" = some none)
  (z10 : PySem.W.nsIn K mainGlobals "sum" = some none)
  (z11 : PySem.W.nsIn K mainGlobals "sorted" = some none)
  (z12 : PySem.W.nsIn K mainGlobals "min" = some none)
  (z13 : PySem.W.nsIn K mainGlobals "abs" = some none)
  (z14 : PySem.W.nsIn K mainGlobals "any" = some none) :
  ∃ fd : FuncData, (∀ (s : Shared) (v : Value), BindsTo s fd ⟨[v], []⟩ [("_law_script", v)]) ∧ ∀ base : Heap, K.In base → base.Ns mainGlobals mg → FnOk l.prog w K mg base CX0 11 fa fd ["_law_script"] (spLaw K) := by
 have e := hfa.symm.trans (PySem.W.mg_of X G a46)
 cases e
 have T : Txt mg := ⟨PySem.W.mg_none_of X G z0, PySem.W.mg_none_of X G z1, PySem.W.mg_none_of X G z2, PySem.W.mg_none_of X G z3, PySem.W.mg_none_of X G z4, PySem.W.mg_none_of X G z5, PySem.W.mg_none_of X G z6, ⟨_, PySem.W.mg_of X G v0⟩, ⟨_, PySem.W.mg_of X G v1⟩, ⟨_, PySem.W.mg_of X G v2⟩, ⟨_, PySem.W.mg_of X G v3⟩, ⟨_, PySem.W.mg_of X G v4⟩⟩
 have T2 : Txt2 mg := ⟨PySem.W.mg_none_of X G z7, PySem.W.mg_none_of X G z8, PySem.W.mg_none_of X G z9, PySem.W.mg_none_of X G z10, PySem.W.mg_none_of X G z11, PySem.W.mg_none_of X G z12, PySem.W.mg_none_of X G z13, PySem.W.mg_none_of X G z14, ⟨_, PySem.W.mg_of X G v5⟩⟩
 have F0 := fun_mk (st := sNumber) l0 c0 k0
 have m0 := PySem.W.mg_of X G a0
 have b0 := F0.binds (ps := ["thing"]) fun _ _ _ _ _ _ us hl => by obtain ⟨u0, rfl⟩ := len1 hl; rfl
 have F1 := fun_mk (st := sWithin) l1 c1 k1
 have m1 := PySem.W.mg_of X G a1
 have b1 := F1.binds (ps := ["thing", "least", "most"]) fun _ _ _ _ _ _ us hl => by obtain ⟨u0, u1, u2, rfl⟩ := len3 hl; rfl
 have F2 := fun_mk (st := sTuple) l2 c2 k2
 have m2 := PySem.W.mg_of X G a2
 have b2 := F2.binds (ps := ["thing", "least", "most"]) fun _ _ _ _ _ _ us hl => by obtain ⟨u0, u1, u2, rfl⟩ := len3 hl; rfl
 have F3 := fun_mk (st := sPair) l3 c3 k3
 have m3 := PySem.W.mg_of X G a3
 have b3 := F3.binds (ps := ["thing"]) fun _ _ _ _ _ _ us hl => by obtain ⟨u0, rfl⟩ := len1 hl; rfl
 have F4 := fun_mk (st := sRising) l4 c4 k4
 have m4 := PySem.W.mg_of X G a4
 have b4 := F4.binds (ps := ["things"]) fun _ _ _ _ _ _ us hl => by obtain ⟨u0, rfl⟩ := len1 hl; rfl
 have F5 := fun_mk (st := sRow) l5 c5 k5
 have m5 := PySem.W.mg_of X G a5
 have b5 := F5.binds (ps := ["thing"]) fun _ _ _ _ _ _ us hl => by obtain ⟨u0, rfl⟩ := len1 hl; rfl
 have F6 := fun_mk (st := sMead) l6 c6 k6
 have m6 := PySem.W.mg_of X G a6
 have b6 := F6.binds (ps := ["thing"]) fun _ _ _ _ _ _ us hl => by obtain ⟨u0, rfl⟩ := len1 hl; rfl
 have F7 := fun_mk (st := sCheck) l7 c7 k7
 have m7 := PySem.W.mg_of X G a7
 have b7 := F7.binds (ps := ["mead"]) fun _ _ _ _ _ _ us hl => by obtain ⟨u0, rfl⟩ := len1 hl; rfl
 have F8 := fun_mk (st := sPlaces) l8 c8 k8
 have m8 := PySem.W.mg_of X G a8
 have b8 := F8.binds (ps := ["mead"]) fun _ _ _ _ _ _ us hl => by obtain ⟨u0, rfl⟩ := len1 hl; rfl
 have F9 := fun_mk (st := sCellsOf) l9 c9 k9
 have m9 := PySem.W.mg_of X G a9
 have b9 := F9.binds (ps := ["mead"]) fun _ _ _ _ _ _ us hl => by obtain ⟨u0, rfl⟩ := len1 hl; rfl
 have F10 := fun_mk (st := sIsCell) l10 c10 k10
 have m10 := PySem.W.mg_of X G a10
 have b10 := F10.binds (ps := ["mead", "thing"]) fun _ _ _ _ _ _ us hl => by obtain ⟨u0, u1, rfl⟩ := len2 hl; rfl
 have F11 := fun_mk (st := sBeside) l11 c11 k11
 have m11 := PySem.W.mg_of X G a11
 have b11 := F11.binds (ps := ["place"]) fun _ _ _ _ _ _ us hl => by obtain ⟨u0, rfl⟩ := len1 hl; rfl
 have F12 := fun_mk (st := sIsLand) l12 c12 k12
 have m12 := PySem.W.mg_of X G a12
 have b12 := F12.binds (ps := ["mead", "thing"]) fun _ _ _ _ _ _ us hl => by obtain ⟨u0, u1, rfl⟩ := len2 hl; rfl
 have F13 := fun_mk (st := sChkLand) l13 c13 k13
 have m13 := PySem.W.mg_of X G a13
 have b13 := F13.binds (ps := ["mead", "land"]) fun _ _ _ _ _ _ us hl => by obtain ⟨u0, u1, rfl⟩ := len2 hl; rfl
 have F14 := fun_mk (st := sPieceR) l14 c14 k14
 have m14 := PySem.W.mg_of X G a14
 have b14 := F14.binds (ps := ["land", "start"]) fun _ _ _ _ _ _ us hl => by obtain ⟨u0, u1, rfl⟩ := len2 hl; rfl
 have F15 := fun_mk (st := sPieces) l15 c15 k15
 have m15 := PySem.W.mg_of X G a15
 have b15 := F15.binds (ps := ["mead", "land"]) fun _ _ _ _ _ _ us hl => by obtain ⟨u0, u1, rfl⟩ := len2 hl; rfl
 have F16 := fun_mk (st := sSides) l16 c16 k16
 have m16 := PySem.W.mg_of X G a16
 have b16 := F16.binds (ps := ["cell"]) fun _ _ _ _ _ _ us hl => by obtain ⟨u0, rfl⟩ := len1 hl; rfl
 have F17 := fun_mk (st := sAlong) l17 c17 k17
 have m17 := PySem.W.mg_of X G a17
 have b17 := F17.binds (ps := ["land"]) fun _ _ _ _ _ _ us hl => by obtain ⟨u0, rfl⟩ := len1 hl; rfl
 have F18 := fun_mk (st := sBehind) l18 c18 k18
 have m18 := PySem.W.mg_of X G a18
 have b18 := F18.binds (ps := ["steps", "step"]) fun _ _ _ _ _ _ us hl => by obtain ⟨u0, u1, rfl⟩ := len2 hl; rfl
 have F19 := fun_mk (st := sFrom) l19 c19 k19
 have m19 := PySem.W.mg_of X G a19
 have b19 := F19.binds (ps := ["steps", "first"]) fun _ _ _ _ _ _ us hl => by obtain ⟨u0, u1, rfl⟩ := len2 hl; rfl
 have F20 := fun_mk (st := sWalks) l20 c20 k20
 have m20 := PySem.W.mg_of X G a20
 have b20 := F20.binds (ps := ["land"]) fun _ _ _ _ _ _ us hl => by obtain ⟨u0, rfl⟩ := len1 hl; rfl
 have F21 := fun_mk (st := sWalksOf) l21 c21 k21
 have m21 := PySem.W.mg_of X G a21
 have b21 := F21.binds (ps := ["mead", "land"]) fun _ _ _ _ _ _ us hl => by obtain ⟨u0, u1, rfl⟩ := len2 hl; rfl
 have F22 := fun_mk (st := sRound) l22 c22 k22
 have m22 := PySem.W.mg_of X G a22
 have b22 := F22.binds (ps := ["mead", "land"]) fun _ _ _ _ _ _ us hl => by obtain ⟨u0, u1, rfl⟩ := len2 hl; rfl
 have F23 := fun_mk (st := sIsWalk) l23 c23 k23
 have m23 := PySem.W.mg_of X G a23
 have b23 := F23.binds (ps := ["thing"]) fun _ _ _ _ _ _ us hl => by obtain ⟨u0, rfl⟩ := len1 hl; rfl
 have F24 := fun_mk (st := sAreWalks) l24 c24 k24
 have m24 := PySem.W.mg_of X G a24
 have b24 := F24.binds (ps := ["thing"]) fun _ _ _ _ _ _ us hl => by obtain ⟨u0, rfl⟩ := len1 hl; rfl
 have F25 := fun_mk (st := sHold) l25 c25 k25
 have m25 := PySem.W.mg_of X G a25
 have b25 := F25.binds (ps := ["mead", "land", "thing"]) fun _ _ _ _ _ _ us hl => by obtain ⟨u0, u1, u2, rfl⟩ := len3 hl; rfl
 have F26 := fun_mk (st := sStepsIn) l26 c26 k26
 have m26 := PySem.W.mg_of X G a26
 have b26 := F26.binds (ps := ["walks"]) fun _ _ _ _ _ _ us hl => by obtain ⟨u0, rfl⟩ := len1 hl; rfl
 have F27 := fun_mk (st := sWithin2) l27 c27 k27
 have m27 := PySem.W.mg_of X G a27
 have b27 := F27.binds (ps := ["cell", "steps"]) fun _ _ _ _ _ _ us hl => by obtain ⟨u0, u1, rfl⟩ := len2 hl; rfl
 have F28 := fun_mk (st := sCellsIn) l28 c28 k28
 have m28 := PySem.W.mg_of X G a28
 have b28 := F28.binds (ps := ["mead", "walks"]) fun _ _ _ _ _ _ us hl => by obtain ⟨u0, u1, rfl⟩ := len2 hl; rfl
 have F29 := fun_mk (st := sChkWalks) l29 c29 k29
 have m29 := PySem.W.mg_of X G a29
 have b29 := F29.binds (ps := ["mead", "walks"]) fun _ _ _ _ _ _ us hl => by obtain ⟨u0, u1, rfl⟩ := len2 hl; rfl
 have F30 := fun_mk (st := sLandIn) l30 c30 k30
 have m30 := PySem.W.mg_of X G a30
 have b30 := F30.binds (ps := ["mead", "walks"]) fun _ _ _ _ _ _ us hl => by obtain ⟨u0, u1, rfl⟩ := len2 hl; rfl
 have F31 := fun_mk (st := sArea) l31 c31 k31
 have m31 := PySem.W.mg_of X G a31
 have b31 := F31.binds (ps := ["mead", "walks"]) fun _ _ _ _ _ _ us hl => by obtain ⟨u0, u1, rfl⟩ := len2 hl; rfl
 have F32 := fun_mk (st := sIsDealt) l32 c32 k32
 have m32 := PySem.W.mg_of X G a32
 have b32 := F32.binds (ps := ["thing"]) fun _ _ _ _ _ _ us hl => by obtain ⟨u0, rfl⟩ := len1 hl; rfl
 have F33 := fun_mk (st := sChkDealt) l33 c33 k33
 have m33 := PySem.W.mg_of X G a33
 have b33 := F33.binds (ps := ["dealt"]) fun _ _ _ _ _ _ us hl => by obtain ⟨u0, rfl⟩ := len1 hl; rfl
 have F34 := fun_mk (st := sSeams) l34 c34 k34
 have m34 := PySem.W.mg_of X G a34
 have b34 := F34.binds (ps := ["mead"]) fun _ _ _ _ _ _ us hl => by obtain ⟨u0, rfl⟩ := len1 hl; rfl
 have F35 := fun_mk (st := sFences) l35 c35 k35
 have m35 := PySem.W.mg_of X G a35
 have b35 := F35.binds (ps := ["dealt"]) fun _ _ _ _ _ _ us hl => by obtain ⟨u0, rfl⟩ := len1 hl; rfl
 have F36 := fun_mk (st := sCell) l36 c36 k36
 have m36 := PySem.W.mg_of X G a36
 have b36 := F36.binds (ps := ["_law_script", "_law_k"]) fun _ _ _ _ _ _ us hl => by obtain ⟨u0, u1, rfl⟩ := len2 hl; rfl
 have F37 := fun_mk (st := sPen) l37 c37 k37
 have m37 := PySem.W.mg_of X G a37
 have b37 := F37.binds (ps := ["_law_cell_here"]) fun _ _ _ _ _ _ us hl => by obtain ⟨u0, rfl⟩ := len1 hl; rfl
 have F38 := fun_mk (st := sDraw) l38 c38 k38
 have m38 := PySem.W.mg_of X G a38
 have b38 := F38.binds (ps := ["_law_pen_here", "_law_many"]) fun _ _ _ _ _ _ us hl => by obtain ⟨u0, u1, rfl⟩ := len2 hl; rfl
 have F39 := fun_mk (st := sMeadL) l39 c39 k39
 have m39 := PySem.W.mg_of X G a39
 have b39 := F39.binds (ps := ["_law_pen_here", "_law_most"]) fun _ _ _ _ _ _ us hl => by obtain ⟨u0, u1, rfl⟩ := len2 hl; rfl
 have F40 := fun_mk (st := sLCells) l40 c40 k40
 have m40 := PySem.W.mg_of X G a40
 have b40 := F40.binds (ps := ["_law_mead_here"]) fun _ _ _ _ _ _ us hl => by obtain ⟨u0, rfl⟩ := len1 hl; rfl
 have F41 := fun_mk (st := sLand) l41 c41 k41
 have m41 := PySem.W.mg_of X G a41
 have b41 := F41.binds (ps := ["_law_pen_here", "_law_mead_here"]) fun _ _ _ _ _ _ us hl => by obtain ⟨u0, u1, rfl⟩ := len2 hl; rfl
 have F42 := fun_mk (st := sHands) l42 c42 k42
 have m42 := PySem.W.mg_of X G a42
 have b42 := F42.binds (ps := ["_law_step"]) fun _ _ _ _ _ _ us hl => by obtain ⟨u0, rfl⟩ := len1 hl; rfl
 have F43 := fun_mk (st := sCloses) l43 c43 k43
 have m43 := PySem.W.mg_of X G a43
 have b43 := F43.binds (ps := ["_law_land_here", "_law_walks"]) fun _ _ _ _ _ _ us hl => by obtain ⟨u0, u1, rfl⟩ := len2 hl; rfl
 have F44 := fun_mk (st := sRight) l44 c44 k44
 have m44 := PySem.W.mg_of X G a44
 have b44 := F44.binds (ps := ["_law_mead_here", "_law_land_here"]) fun _ _ _ _ _ _ us hl => by obtain ⟨u0, u1, rfl⟩ := len2 hl; rfl
 have F45 := fun_mk (st := sAllSteps) l45 c45 k45
 have m45 := PySem.W.mg_of X G a45
 have b45 := F45.binds (ps := ["_law_mead_here", "_law_numbers"]) fun _ _ _ _ _ _ us hl => by obtain ⟨u0, u1, rfl⟩ := len2 hl; rfl
 have F46 := fun_mk (st := sLaw) l46 c46 k46
 have m46 := PySem.W.mg_of X G a46
 refine ⟨PySem.W.fnOf "law" "law" (defArgs sLaw) (defBody sLaw) (defScope sLaw) .none kV46 dc46 pm46 an46 cd46 ct46, fun s v => .of_eq rfl, fun base _ _ => ?_⟩
 have g0 : FnOk l.prog w K mg base CX0 1 f0 _ ["thing"] spNumber := ok_number F0 T
 have g2 : FnOk l.prog w K mg base CX0 1 f2 _ ["thing", "least", "most"] spTuple := ok_tuple F2 T
 have g1 : FnOk l.prog w K mg base CX0 2 f1 _ ["thing", "least", "most"] spWithin := ok_within F1 T F0 b0 m0
 have g5 : FnOk l.prog w K mg base CX0 3 f5 _ ["thing"] spRow := ok_row F5 T b2 m2 k2 g2 b1 m1 k1 g1
 have g8p : FnOk l.prog w K mg base CX0 1 f8 _ ["mead"] spPlaces := ok_places F8 T
 have g6 : FnOk l.prog w K mg base CX0 4 f6 _ ["thing"] spMead := ok_mead F6 T b2 m2 k2 g2 b5 m5 k5 g5 b8 m8 k8 g8p
 have g8 : FnOk l.prog w K mg base CX0 1 f8 _ ["mead"] (spGrid pos) := ok_placesG F8 T
 have g7 : FnOk l.prog w K mg base CX0 5 f7 _ ["mead"] spCheck := ok_check F7 ⟨m6, k6, b6, g6⟩
 have g3 : FnOk l.prog w K mg base CX0 2 f3 _ ["thing"] spPair := ok_pair F3 T ⟨m2, k2, b2, g2⟩ ⟨m0, k0, b0, g0⟩
 have g10 : FnOk l.prog w K mg base CX0 3 f10 _ ["mead", "thing"] spIsCell := ok_isCell F10 ⟨m3, k3, b3, g3⟩ ⟨m8, k8, b8, g8⟩
 have g4 : FnOk l.prog w K mg base CX0 1 f4 _ ["things"] spRising := ok_rising F4 T T2
 have g12 : FnOk l.prog w K mg base CX0 6 f12 _ ["mead", "thing"] spIsLand := ok_isLand F12 T ⟨m7, k7, b7, g7⟩ ⟨m10, k10, b10, g10⟩ ⟨m4, k4, b4, g4⟩
 have g13 : FnOk l.prog w K mg base CX0 7 f13 _ ["mead", "land"] spChkLand := ok_chkLand F13 ⟨m12, k12, b12, g12⟩
 have g16 : FnOk l.prog w K mg base CX0 1 f16 _ ["cell"] spSides := ok_sides F16 
 have g17 : FnOk l.prog w K mg base CX0 2 f17 _ ["land"] spAlong := ok_along F17 T2 ⟨m16, k16, b16, g16⟩
 have g18 : FnOk l.prog w K mg base CX0 1 f18 _ ["steps", "step"] spBehind := ok_behind F18 
 have g19 : FnOk l.prog w K mg base CX0 2 f19 _ ["steps", "first"] spFrom := ok_from F19 ⟨m18, k18, b18, g18⟩
 have g20 : FnOk l.prog w K mg base CX0 3 f20 _ ["land"] spWalks := ok_walks F20 T ⟨m17, k17, b17, g17⟩ ⟨m19, k19, b19, g19⟩
 have g21 : FnOk l.prog w K mg base CX0 8 f21 _ ["mead", "land"] spWalksOf := ok_walksOf F21 ⟨m13, k13, b13, g13⟩ ⟨m20, k20, b20, g20⟩
 have g22 : FnOk l.prog w K mg base CX0 9 f22 _ ["mead", "land"] spRound := ok_round F22 T T2 ⟨m21, k21, b21, g21⟩
 have g36 : FnOk l.prog w K mg base CX0 1 f36 _ ["_law_script", "_law_k"] (spCell K) := ok_cell F36 T
 have g37 : FnOk l.prog w K mg base CX0 1 f37 _ ["_law_cell_here"] spPen := ok_pen F37 T
 have g38 : FnOk l.prog w K mg base CX0 1 f38 _ ["_law_pen_here", "_law_many"] spDraw := ok_draw F38 T
 have g39 : FnOk l.prog w K mg base CX0 2 f39 _ ["_law_pen_here", "_law_most"] spMeadL := ok_meadL F39 T T2 b38 m38 k38 g38
 have g40 : FnOk l.prog w K mg base CX0 1 f40 _ ["_law_mead_here"] (spGrid pos) := ok_lcells F40 T
 have g41 : FnOk l.prog w K mg base CX0 2 f41 _ ["_law_pen_here", "_law_mead_here"] spLand := ok_land F41 T ⟨m38, k38, b38, g38⟩ ⟨m40, k40, b40, g40⟩
 have g9 : FnOk l.prog w K mg base CX0 6 f9 _ ["mead"] (spGrid pos) := ok_cellsOf F9 ⟨m7, k7, b7, g7⟩ ⟨m8, k8, b8, g8⟩
 have g11 : FnOk l.prog w K mg base CX0 1 f11 _ ["place"] spBeside := ok_beside F11 
 have g14 : FnOk l.prog w K mg base CX0 2 f14 _ ["land", "start"] spPieceR := ok_pieceR F14 T T2 ⟨m11, k11, b11, g11⟩
 have g15 : FnOk l.prog w K mg base CX0 8 f15 _ ["mead", "land"] spPieces := ok_pieces F15 T2 ⟨m13, k13, b13, g13⟩ ⟨m14, k14, b14, g14⟩
 have g23 : FnOk l.prog w K mg base CX0 3 f23 _ ["thing"] spIsWalk := ok_isWalk F23 T ⟨m3, k3, b3, g3⟩
 have g24 : FnOk l.prog w K mg base CX0 4 f24 _ ["thing"] spAreWalks := ok_areWalks F24 T T2 ⟨m23, k23, b23, g23⟩
 have g25 : FnOk l.prog w K mg base CX0 8 f25 _ ["mead", "land", "thing"] spHold := ok_hold F25 ⟨m13, k13, b13, g13⟩ ⟨m24, k24, b24, g24⟩ ⟨m20, k20, b20, g20⟩
 have g26 : FnOk l.prog w K mg base CX0 1 f26 _ ["walks"] spStepsIn := ok_stepsIn F26 T2
 have g27 : FnOk l.prog w K mg base CX0 1 f27 _ ["cell", "steps"] spWithin2 := ok_within2 F27 T T2
 have g28 : FnOk l.prog w K mg base CX0 7 f28 _ ["mead", "walks"] spCellsIn := ok_cellsIn F28 T ⟨m26, k26, b26, g26⟩ ⟨m9, k9, b9, g9⟩ ⟨m27, k27, b27, g27⟩
 have g29 : FnOk l.prog w K mg base CX0 8 f29 _ ["mead", "walks"] spChkWalks := ok_chkWalks F29 ⟨m7, k7, b7, g7⟩ ⟨m24, k24, b24, g24⟩ ⟨m20, k20, b20, g20⟩ ⟨m28, k28, b28, g28⟩
 have g30 : FnOk l.prog w K mg base CX0 9 f30 _ ["mead", "walks"] spCellsIn := ok_landIn F30 ⟨m29, k29, b29, g29⟩ ⟨m28, k28, b28, g28⟩
 have g31 : FnOk l.prog w K mg base CX0 9 f31 _ ["mead", "walks"] spArea := ok_area F31 T2 ⟨m29, k29, b29, g29⟩ ⟨m26, k26, b26, g26⟩
 have g32 : FnOk l.prog w K mg base CX0 7 f32 _ ["thing"] spIsDealt := ok_isDealt F32 T T2 ⟨m2, k2, b2, g2⟩ ⟨m6, k6, b6, g6⟩ ⟨m9, k9, b9, g9⟩ ⟨m1, k1, b1, g1⟩
 have g33 : FnOk l.prog w K mg base CX0 8 f33 _ ["dealt"] spChkDealt := ok_chkDealt F33 ⟨m32, k32, b32, g32⟩
 have g34 : FnOk l.prog w K mg base CX0 7 f34 _ ["mead"] spSeams := ok_seams F34 ⟨m9, k9, b9, g9⟩ ⟨m11, k11, b11, g11⟩
 have g35 : FnOk l.prog w K mg base CX0 9 f35 _ ["dealt"] spFences := ok_fences F35 T2 ⟨m33, k33, b33, g33⟩ ⟨m9, k9, b9, g9⟩ ⟨m34, k34, b34, g34⟩
 have g42 : FnOk l.prog w K mg base CX0 1 f42 _ ["_law_step"] spHands := ok_hands F42 T2
 have g43 : FnOk l.prog w K mg base CX0 2 f43 _ ["_law_land_here", "_law_walks"] spCloses := ok_closes F43 T2 ⟨m42, k42, b42, g42⟩
 have g44 : FnOk l.prog w K mg base CX0 10 f44 _ ["_law_mead_here", "_law_land_here"] spRight := ok_right F44 T T2 ⟨m21, k21, b21, g21⟩ ⟨m25, k25, b25, g25⟩ ⟨m43, k43, b43, g43⟩ ⟨m22, k22, b22, g22⟩ ⟨m30, k30, b30, g30⟩ ⟨m15, k15, b15, g15⟩ ⟨m31, k31, b31, g31⟩
 have g45 : FnOk l.prog w K mg base CX0 10 f45 _ ["_law_mead_here", "_law_numbers"] spAllSteps := ok_allSteps F45 T T2 ⟨m40, k40, b40, g40⟩ ⟨m22, k22, b22, g22⟩
 exact ok_law F46 T T2 ⟨m36, k36, b36, g36⟩ ⟨m37, k37, b37, g37⟩ ⟨m39, k39, b39, g39⟩ ⟨m40, k40, b40, g40⟩ ⟨m41, k41, b41, g41⟩ ⟨m12, k12, b12, g12⟩ ⟨m44, k44, b44, g44⟩ ⟨m38, k38, b38, g38⟩ ⟨m45, k45, b45, g45⟩ ⟨m22, k22, b22, g22⟩ ⟨m35, k35, b35, g35⟩
theorem walk {l : PySem.W.OpenLaw} {q : Program} {loose : List Str} {XP : (Str → Option Value) → Heap → Prop} {YP : World → Heap → Prop} {d : DefRec} {K : Params → PySem.W.Frag} (hn : l.most = some 63) (hdf : d.params.defaults = [])
  (hY : ∀ (w : World) (h : Heap), YP w h → (K w.params).In h)
  (F : ∀ (w : World) (mg : Str → Option Value) (fa : Addr) (h : Heap), (K w.params).In h → h.Ns mainGlobals mg → mg d.name = some (.ref fa) →
   ∃ fd : FuncData, (∀ (s : Shared) (u : Value), BindsTo s fd ⟨[u], []⟩ [("_law_script", u)]) ∧ ∀ base : Heap, (K w.params).In base → base.Ns mainGlobals mg → FnOk l.prog w (K w.params) mg base CX0 11 fa fd ["_law_script"] (spLaw (K w.params))) :
  PySem.W.WalkO q loose XP YP l.row.toRowW d [] (fun f vs => PySem.call f vs) :=
 L2.walk_of (n := 63) (k := 11) (x := "_law_script") (CX := fun _ => CX0) (sp := fun w => spLaw (K w.params)) hn (by decide) hdf ⟨rfl, by decide, by decide⟩ hY F (fun _ _ a ns hl _ hS => ⟨a, ns, rfl, hS, hl, fun _ => rfl⟩) fun _ _ _ _ _ z => z
end M50
open PySem PySem.W PyProof.Rows
namespace PySem.W.Fast
theorem tw8542865000994474188:True:=⟨⟩
theorem tw11417189417540612669:True:=⟨⟩
theorem tw12264260706843681950:True:=⟨⟩
theorem tw10176270575086938872:True:=⟨⟩
theorem tw5321840890883265623:True:=⟨⟩
theorem tw8145337229425553343:True:=⟨⟩
theorem tw1338174711536313612:True:=⟨⟩
theorem tw12557445993746252379:True:=⟨⟩
theorem tw7659137026625679600:True:=⟨⟩
theorem tw17028116881565914507:True:=⟨⟩
theorem tw1865661137136973934:True:=⟨⟩
theorem tw4357636721565110367:True:=⟨⟩
theorem tw10042857895942758944:True:=⟨⟩
theorem tw895873368004887668:True:=⟨⟩
theorem tw2458797617903939977:True:=⟨⟩
theorem tw15758802010252388564:True:=⟨⟩
theorem tw14900438770049406026:True:=⟨⟩
theorem tw2857477204647373902:True:=⟨⟩
theorem tw9871081825101189523:True:=⟨⟩
theorem tw7864276422174777445:True:=⟨⟩
theorem tw6877460281242678162:True:=⟨⟩
theorem tw13671395065441352360:True:=⟨⟩
theorem tw16992677270907812318:True:=⟨⟩
theorem tw10943760211444776965:True:=⟨⟩
theorem tw15451725334597643115:True:=⟨⟩
theorem tw15623993136097710668:True:=⟨⟩
theorem tw8098030335366146292:True:=⟨⟩
theorem tw1079851178104630803:True:=⟨⟩
theorem tw4707640751094819387:True:=⟨⟩
theorem tw8078092058741617647:True:=⟨⟩
theorem tw1827203549860829561:True:=⟨⟩
theorem tw1617058649484203762:True:=⟨⟩
theorem tw12029848616930958920:True:=⟨⟩
theorem tw10911487003620241736:True:=⟨⟩
theorem tw17177464127975379904:True:=⟨⟩
theorem tw13011046050305661856:True:=⟨⟩
theorem tw10697157129220433384:True:=⟨⟩
theorem tw17942035796536484617:True:=⟨⟩
theorem tw13768943396781115330:True:=⟨⟩
theorem tw12686996259710105149:True:=⟨⟩
theorem tw3243319686517230174:True:=⟨⟩
theorem tw5186310155091546481:True:=⟨⟩
theorem tw14176849823457282518:True:=⟨⟩
theorem tw3461292938320898314:True:=⟨⟩
theorem tw13752123131946249312:True:=⟨⟩
theorem tw3001494955504008080:True:=⟨⟩
theorem tw12506749362778673649:True:=⟨⟩
theorem tw2324259952437408003:True:=⟨⟩
theorem tw15439662950798843295:True:=⟨⟩
theorem tw8775421953742833719:True:=⟨⟩
theorem tw6899503446650543042:True:=⟨⟩
theorem tw6996488073857827924:True:=⟨⟩
theorem tw10585992213199933120:True:=⟨⟩
theorem tw3857639578208918103:True:=⟨⟩
theorem tw16477468047180573246:True:=⟨⟩
theorem tw13873935552194277408:True:=⟨⟩
theorem tw1224436709480069999:True:=⟨⟩
theorem tw4028934363336391063:True:=⟨⟩
theorem tw7174051813164498656:True:=⟨⟩
theorem tw2752366423291675328:True:=⟨⟩
theorem tw12494950193433329935:True:=⟨⟩
theorem tw14164458934780971062:True:=⟨⟩
theorem tw1601118704160751048:True:=⟨⟩
theorem tw8335017606615085890:True:=⟨⟩
theorem tw14218260695495920768:True:=⟨⟩
theorem tw2379488701661040936:True:=⟨⟩
theorem tw4035991126913562048:True:=⟨⟩
theorem tw14247829801986264601:True:=⟨⟩
theorem tw14896095528763694673:True:=⟨⟩
theorem tw4254083767354353624:True:=⟨⟩
theorem tw7009162701154934085:True:=⟨⟩
theorem tw16592512486300088394:True:=⟨⟩
theorem tw4501517473168790007:True:=⟨⟩
theorem tw1620792322919840297:True:=⟨⟩
theorem tw9259856585128222180:True:=⟨⟩
theorem tw5058037130633479123:True:=⟨⟩
theorem tw12250281618803690958:True:=⟨⟩
theorem tw5036363462114329377:True:=⟨⟩
theorem tw4508762427727252032:True:=⟨⟩
theorem tw15595386521803315406:True:=⟨⟩
theorem tw17833437057508015992:True:=⟨⟩
theorem tw2945327842604022053:True:=⟨⟩
theorem tw10071613334456483349:True:=⟨⟩
theorem tw1874409122684094570:True:=⟨⟩
theorem tw5554680882548377260:True:=⟨⟩
theorem tw3080273748268142233:True:=⟨⟩
theorem tw8698995016192940088:True:=⟨⟩
theorem tw7020262584424570710:True:=⟨⟩
theorem tw10964589534418223751:True:=⟨⟩
theorem tw6350563375802550304:True:=⟨⟩
theorem tw5134992830373590969:True:=⟨⟩
theorem tw13518354027831848998:True:=⟨⟩
theorem tw12569901930174934417:True:=⟨⟩
theorem tw8270147181140763013:True:=⟨⟩
theorem tw8782027528838190880:True:=⟨⟩
theorem tw139540986068286073:True:=⟨⟩
theorem tw12060677059636855593:True:=⟨⟩
theorem tw8242148215523874839:True:=⟨⟩
theorem tw1485545631643460596:True:=⟨⟩
theorem tw15988100230601962539:True:=⟨⟩
theorem tw4132006424296045273:True:=⟨⟩
theorem tw4584057994184327629:True:=⟨⟩
theorem tw8102711825920657361:True:=⟨⟩
theorem tw15275346351964779829:True:=⟨⟩
theorem tw7045875647214869391:True:=⟨⟩
theorem tw6303764886880481961:True:=⟨⟩
theorem tw7330967854930261432:True:=⟨⟩
theorem tw2656021095348236330:True:=⟨⟩
theorem tw15046427327324257432:True:=⟨⟩
theorem tw1615324719748243053:True:=⟨⟩
theorem tw10957122194796705658:True:=⟨⟩
theorem tw16968457640872690266:True:=⟨⟩
theorem tw1531947409534198663:True:=⟨⟩
theorem tw5087991184110231966:True:=⟨⟩
theorem tw14930610455914694846:True:=⟨⟩
theorem tw8427234153984739680:True:=⟨⟩
theorem tw2846253205427667894:True:=⟨⟩
theorem tw15035792687971182477:True:=⟨⟩
theorem tw5210304771706507995:True:=⟨⟩
theorem tw18393203699997949080:True:=⟨⟩
theorem tw1102490962744048849:True:=⟨⟩
theorem tw1481692012295526914:True:=⟨⟩
theorem tw10831478192875310412:True:=⟨⟩
theorem tw6079912464045025203:True:=⟨⟩
theorem tw17070054910710994009:True:=⟨⟩
theorem tw6223683387122179760:True:=⟨⟩
theorem tw17495931095987856577:True:=⟨⟩
theorem tw3475249781621401952:True:=⟨⟩
theorem tw5385842047058873393:True:=⟨⟩
theorem tw9997090876151869003:True:=⟨⟩
theorem tw6598555839309964970:True:=⟨⟩
theorem tw17329871477638215013:True:=⟨⟩
theorem tw10436956185592976781:True:=⟨⟩
theorem tw15826671755698968030:True:=⟨⟩
theorem tw10562114538609599378:True:=⟨⟩
theorem tw7657213156339968965:True:=⟨⟩
theorem tw10924130590432015192:True:=⟨⟩
theorem tw13260777756319180132:True:=⟨⟩
theorem tw18363703250514606732:True:=⟨⟩
theorem tw12897568056718002825:True:=⟨⟩
theorem tw3641544416489018803:True:=⟨⟩
theorem tw9455468680333995017:True:=⟨⟩
theorem tw199230580934720993:True:=⟨⟩
theorem tw7566698977894761204:True:=⟨⟩
theorem tw4235509520099570555:True:=⟨⟩
theorem tw3820026664474280888:True:=⟨⟩
theorem tw8008130151152829134:True:=⟨⟩
theorem tw17811098890881220565:True:=⟨⟩
theorem tw14372563417144392340:True:=⟨⟩
theorem tw11424571167348633769:True:=⟨⟩
theorem tw8188459830886368771:True:=⟨⟩
theorem tw5358651398998200787:True:=⟨⟩
theorem tw6864576236028104931:True:=⟨⟩
theorem tw5206977850205248097:True:=⟨⟩
theorem tw2319285622967297400:True:=⟨⟩
theorem tw1925471133506479763:True:=⟨⟩
theorem tw8403284364978693295:True:=⟨⟩
theorem tw8006386249058217140:True:=⟨⟩
theorem tw6478151913377588546:True:=⟨⟩
theorem tw14313586090840342955:True:=⟨⟩
theorem tw6185221461685098493:True:=⟨⟩
theorem tw10095357061799631606:True:=⟨⟩
theorem tw2341717015974390989:True:=⟨⟩
theorem tw1592503648337974522:True:=⟨⟩
theorem tw9561992891267991084:True:=⟨⟩
theorem tw7297896784679118350:True:=⟨⟩
theorem tw15548921054536882522:True:=⟨⟩
theorem tw13485613788435588123:True:=⟨⟩
theorem tw8484472134056315017:True:=⟨⟩
theorem tw15215796929709503034:True:=⟨⟩
theorem tw10712856250029907137:True:=⟨⟩
theorem tw8179377083378289320:True:=⟨⟩
theorem tw2555886613937048337:True:=⟨⟩
theorem tw487706658045236878:True:=⟨⟩
theorem tw17453954374586671805:True:=⟨⟩
theorem tw17269296777481613392:True:=⟨⟩
theorem tw11212120325545837135:True:=⟨⟩
theorem tw11278132269214571232:True:=⟨⟩
theorem tw3434541128014683855:True:=⟨⟩
theorem tw4467091836687664930:True:=⟨⟩
theorem tw16359147756702321238:True:=⟨⟩
theorem tw10076404528212354579:True:=⟨⟩
theorem tw15308684908478108314:True:=⟨⟩
theorem tw8347061118702118638:True:=⟨⟩
theorem tw6536805429786396309:True:=⟨⟩
theorem tw13667677200068708741:True:=⟨⟩
theorem tw14177646438571630714:True:=⟨⟩
theorem tw15815952067850537011:True:=⟨⟩
theorem tw4939207945172427759:True:=⟨⟩
theorem tw17897950864201002745:True:=⟨⟩
theorem tw7564664367198265227:True:=⟨⟩
theorem tw11555900289203020208:True:=⟨⟩
theorem tw14349737891031842526:True:=⟨⟩
theorem tw3414493610667253312:True:=⟨⟩
theorem tw8130611317571082049:True:=⟨⟩
theorem tw14562453391563847246:True:=⟨⟩
theorem tw17194395219602333463:True:=⟨⟩
theorem tw16382035586197007431:True:=⟨⟩
theorem tw9938665801826114745:True:=⟨⟩
theorem tw18259566089168506287:True:=⟨⟩
theorem tw3153253251842344967:True:=⟨⟩
theorem tw17188841116050813277:True:=⟨⟩
theorem tw15779565989653695398:True:=⟨⟩
theorem tw15448146620587455639:True:=⟨⟩
theorem tw14947661538687847993:True:=⟨⟩
theorem tw10562015444546840554:True:=⟨⟩
theorem tw5672796878342432854:True:=⟨⟩
theorem tw10669637849361993442:True:=⟨⟩
theorem tw4512785581732030145:True:=⟨⟩
theorem tw15215527132223434452:True:=⟨⟩
theorem tw4560580883674456856:True:=⟨⟩
theorem tw6286685066855640571:True:=⟨⟩
theorem tw12616485294774048307:True:=⟨⟩
theorem tw14671025332866164346:True:=⟨⟩
theorem tw1917596648406810940:True:=⟨⟩
theorem tw10151391750053323726:True:=⟨⟩
theorem tw1935899020002893584:True:=⟨⟩
theorem tw377958428038995132:True:=⟨⟩
theorem tw12307906311548972526:True:=⟨⟩
theorem tw4440959245595625693:True:=⟨⟩
theorem tw7033060107406680769:True:=⟨⟩
theorem tw15595547888056073294:True:=⟨⟩
theorem tw8354989510939300540:True:=⟨⟩
theorem tw8182159632514346909:True:=⟨⟩
theorem tw16661523506710802587:True:=⟨⟩
theorem tw18352310259432608561:True:=⟨⟩
theorem tw4391637641564105813:True:=⟨⟩
theorem tw14935356769892368390:True:=⟨⟩
theorem tw3947313481197399084:True:=⟨⟩
theorem tw1796595283932324494:True:=⟨⟩
theorem tw9443033946001518324:True:=⟨⟩
theorem tw2039696625593395125:True:=⟨⟩
theorem tw2024605762172499729:True:=⟨⟩
theorem tw9476752128236886370:True:=⟨⟩
theorem tw16308775884757329273:True:=⟨⟩
theorem tw15839687615653764179:True:=⟨⟩
theorem tw1055825011217335048:True:=⟨⟩
theorem tw4083106983403368730:True:=⟨⟩
theorem tw12129539842358970867:True:=⟨⟩
theorem tw11749784108077562817:True:=⟨⟩
theorem tw5097036867219649682:True:=⟨⟩
theorem tw11732694547514455300:True:=⟨⟩
theorem tw4069369720873019245:True:=⟨⟩
theorem tw12820540434343994246:True:=⟨⟩
theorem tw854613745980191770:True:=⟨⟩
theorem tw9898767173388457791:True:=⟨⟩
theorem tw2043595472055571374:True:=⟨⟩
theorem tw6762993111430967186:True:=⟨⟩
theorem tw13143154797351715072:True:=⟨⟩
theorem tw10090182510862130546:True:=⟨⟩
theorem tw14976131687956604617:True:=⟨⟩
theorem tw13301778535528948927:True:=⟨⟩
theorem tw15163077262773979220:True:=⟨⟩
theorem tw12019659397998307353:True:=⟨⟩
theorem tw9233404952921050357:True:=⟨⟩
theorem tw10877949012904342216:True:=⟨⟩
theorem tw14422098559488187093:True:=⟨⟩
theorem tw16109584523527550480:True:=⟨⟩
theorem tw7673484091343906358:True:=⟨⟩
theorem tw5993199756842083578:True:=⟨⟩
theorem tw13793256386168802465:True:=⟨⟩
theorem tw4007956360270713831:True:=⟨⟩
theorem tw2892637358817184254:True:=⟨⟩
theorem tw2655511127381907510:True:=⟨⟩
theorem tw4063255934987451593:True:=⟨⟩
theorem tw6846950040230786740:True:=⟨⟩
theorem tw15196776069995966577:True:=⟨⟩
theorem tw10910431193937192894:True:=⟨⟩
theorem tw2919543105481856130:True:=⟨⟩
theorem tw635096525783239188:True:=⟨⟩
theorem tw14245781775685341622:True:=⟨⟩
theorem tw11946052599631088909:True:=⟨⟩
theorem tw8556000596982657146:True:=⟨⟩
theorem tw9696888010566689409:True:=⟨⟩
theorem tw16487805410366649126:True:=⟨⟩
theorem tw10465744478526485460:True:=⟨⟩
theorem tw11803137144567887127:True:=⟨⟩
theorem tw3682029263561946709:True:=⟨⟩
theorem tw11330902367506587083:True:=⟨⟩
theorem tw13578603861591638694:True:=⟨⟩
theorem tw5813498407337784479:True:=⟨⟩
theorem tw11170288228026011554:True:=⟨⟩
theorem tw2205642020477512794:True:=⟨⟩
theorem tw14968657223255131644:True:=⟨⟩
theorem tw1928835544547324049:True:=⟨⟩
theorem tw7948856508234340166:True:=⟨⟩
theorem tw10370160131093629623:True:=⟨⟩
theorem tw16355784041256439241:True:=⟨⟩
theorem tw9959265102964440005:True:=⟨⟩
theorem tw8971232674563534292:True:=⟨⟩
theorem tw15413174793805736646:True:=⟨⟩
theorem tw11350946576433351143:True:=⟨⟩
theorem tw14501365741439548041:True:=⟨⟩
theorem tw11547066668467354053:True:=⟨⟩
theorem tw8800242711861292546:True:=⟨⟩
theorem tw11211342879127743847:True:=⟨⟩
theorem tw12887947118663267483:True:=⟨⟩
theorem tw16354627488565847923:True:=⟨⟩
theorem tw6279614451789763989:True:=⟨⟩
theorem tw12393332024719135299:True:=⟨⟩
theorem tw12571335746846031792:True:=⟨⟩
theorem tw13404092800309541672:True:=⟨⟩
theorem tw18091707928123878674:True:=⟨⟩
theorem tw9252597092321648521:True:=⟨⟩
theorem tw8045280015193196878:True:=⟨⟩
theorem tw5704113332281680484:True:=⟨⟩
theorem tw13857141213734348664:True:=⟨⟩
theorem tw1453513246179456036:True:=⟨⟩
theorem tw14606869875314762167:True:=⟨⟩
theorem tw9585244613171067793:True:=⟨⟩
theorem tw11412256082615212115:True:=⟨⟩
theorem tw7881821360648717741:True:=⟨⟩
theorem tw14010008332881180957:True:=⟨⟩
theorem tw13193782483664462995:True:=⟨⟩
theorem tw18327537954913918428:True:=⟨⟩
theorem tw8449651918297697047:True:=⟨⟩
theorem tw11033739450673515469:True:=⟨⟩
theorem tw7863209723503192083:True:=⟨⟩
theorem tw10466104993834340884:True:=⟨⟩
theorem tw18122634172827272422:True:=⟨⟩
theorem tw2681152936981138811:True:=⟨⟩
theorem tw8314577923158115059:True:=⟨⟩
theorem tw6739459890387656610:True:=⟨⟩
theorem tw13754232913304123662:True:=⟨⟩
theorem tw624641390709222068:True:=⟨⟩
theorem tw14328354558634976293:True:=⟨⟩
theorem tw6401473054583032296:True:=⟨⟩
theorem tw3679043951578031573:True:=⟨⟩
end PySem.W.Fast
set_option maxRecDepth 100000 in
set_option maxHeartbeats 0 in
theorem PySem.Challenge.cw_meadshares_k50_whole_walks_close_holds : PySem.Challenge.rw_meadshares_k50_whole_walks_close.Holds := by
 w_on; o_law; k_head; (case hw => w_witness2)
 k_fill
 refine M50.walk (l := PySem.Challenge.rw_meadshares_k50_whole_walks_close) rfl rfl (fun w h Y => PySem.W.kIn_of Y) ?F
 case F =>
  intro w mg fa h KX G hmg
  refine' M50.all_mk KX G hmg ?a0 ?l0 ?c0 ?k0 ?a1 ?l1 ?c1 ?k1 ?a2 ?l2 ?c2 ?k2 ?a3 ?l3 ?c3 ?k3 ?a4 ?l4 ?c4 ?k4 ?a5 ?l5 ?c5 ?k5 ?a6 ?l6 ?c6 ?k6 ?a7 ?l7 ?c7 ?k7 ?a8 ?l8 ?c8 ?k8 ?a9 ?l9 ?c9 ?k9 ?a10 ?l10 ?c10 ?k10 ?a11 ?l11 ?c11 ?k11 ?a12 ?l12 ?c12 ?k12 ?a13 ?l13 ?c13 ?k13 ?a14 ?l14 ?c14 ?k14 ?a15 ?l15 ?c15 ?k15 ?a16 ?l16 ?c16 ?k16 ?a17 ?l17 ?c17 ?k17 ?a18 ?l18 ?c18 ?k18 ?a19 ?l19 ?c19 ?k19 ?a20 ?l20 ?c20 ?k20 ?a21 ?l21 ?c21 ?k21 ?a22 ?l22 ?c22 ?k22 ?a23 ?l23 ?c23 ?k23 ?a24 ?l24 ?c24 ?k24 ?a25 ?l25 ?c25 ?k25 ?a26 ?l26 ?c26 ?k26 ?a27 ?l27 ?c27 ?k27 ?a28 ?l28 ?c28 ?k28 ?a29 ?l29 ?c29 ?k29 ?a30 ?l30 ?c30 ?k30 ?a31 ?l31 ?c31 ?k31 ?a32 ?l32 ?c32 ?k32 ?a33 ?l33 ?c33 ?k33 ?a34 ?l34 ?c34 ?k34 ?a35 ?l35 ?c35 ?k35 ?a36 ?l36 ?c36 ?k36 ?a37 ?l37 ?c37 ?k37 ?a38 ?l38 ?c38 ?k38 ?a39 ?l39 ?c39 ?k39 ?a40 ?l40 ?c40 ?k40 ?a41 ?l41 ?c41 ?k41 ?a42 ?l42 ?c42 ?k42 ?a43 ?l43 ?c43 ?k43 ?a44 ?l44 ?c44 ?k44 ?a45 ?l45 ?c45 ?k45 ?a46 ?l46 ?c46 ?k46 ?v0 ?v1 ?v2 ?v3 ?v4 ?v5 ?z0 ?z1 ?z2 ?z3 ?z4 ?z5 ?z6 ?z7 ?z8 ?z9 ?z10 ?z11 ?z12 ?z13 ?z14
  (case a0 => k_is)
  (case l0 => k_is)
  (case c0 => k_is)
  (case k0 => k_is)
  (case a1 => k_is)
  (case l1 => k_is)
  (case c1 => k_is)
  (case k1 => k_is)
  (case a2 => k_is)
  (case l2 => k_is)
  (case c2 => k_is)
  (case k2 => k_is)
  (case a3 => k_is)
  (case l3 => k_is)
  (case c3 => k_is)
  (case k3 => k_is)
  (case a4 => k_is)
  (case l4 => k_is)
  (case c4 => k_is)
  (case k4 => k_is)
  (case a5 => k_is)
  (case l5 => k_is)
  (case c5 => k_is)
  (case k5 => k_is)
  (case a6 => k_is)
  (case l6 => k_is)
  (case c6 => k_is)
  (case k6 => k_is)
  (case a7 => k_is)
  (case l7 => k_is)
  (case c7 => k_is)
  (case k7 => k_is)
  (case a8 => k_is)
  (case l8 => k_is)
  (case c8 => k_is)
  (case k8 => k_is)
  (case a9 => k_is)
  (case l9 => k_is)
  (case c9 => k_is)
  (case k9 => k_is)
  (case a10 => k_is)
  (case l10 => k_is)
  (case c10 => k_is)
  (case k10 => k_is)
  (case a11 => k_is)
  (case l11 => k_is)
  (case c11 => k_is)
  (case k11 => k_is)
  (case a12 => k_is)
  (case l12 => k_is)
  (case c12 => k_is)
  (case k12 => k_is)
  (case a13 => k_is)
  (case l13 => k_is)
  (case c13 => k_is)
  (case k13 => k_is)
  (case a14 => k_is)
  (case l14 => k_is)
  (case c14 => k_is)
  (case k14 => k_is)
  (case a15 => k_is)
  (case l15 => k_is)
  (case c15 => k_is)
  (case k15 => k_is)
  (case a16 => k_is)
  (case l16 => k_is)
  (case c16 => k_is)
  (case k16 => k_is)
  (case a17 => k_is)
  (case l17 => k_is)
  (case c17 => k_is)
  (case k17 => k_is)
  (case a18 => k_is)
  (case l18 => k_is)
  (case c18 => k_is)
  (case k18 => k_is)
  (case a19 => k_is)
  (case l19 => k_is)
  (case c19 => k_is)
  (case k19 => k_is)
  (case a20 => k_is)
  (case l20 => k_is)
  (case c20 => k_is)
  (case k20 => k_is)
  (case a21 => k_is)
  (case l21 => k_is)
  (case c21 => k_is)
  (case k21 => k_is)
  (case a22 => k_is)
  (case l22 => k_is)
  (case c22 => k_is)
  (case k22 => k_is)
  (case a23 => k_is)
  (case l23 => k_is)
  (case c23 => k_is)
  (case k23 => k_is)
  (case a24 => k_is)
  (case l24 => k_is)
  (case c24 => k_is)
  (case k24 => k_is)
  (case a25 => k_is)
  (case l25 => k_is)
  (case c25 => k_is)
  (case k25 => k_is)
  (case a26 => k_is)
  (case l26 => k_is)
  (case c26 => k_is)
  (case k26 => k_is)
  (case a27 => k_is)
  (case l27 => k_is)
  (case c27 => k_is)
  (case k27 => k_is)
  (case a28 => k_is)
  (case l28 => k_is)
  (case c28 => k_is)
  (case k28 => k_is)
  (case a29 => k_is)
  (case l29 => k_is)
  (case c29 => k_is)
  (case k29 => k_is)
  (case a30 => k_is)
  (case l30 => k_is)
  (case c30 => k_is)
  (case k30 => k_is)
  (case a31 => k_is)
  (case l31 => k_is)
  (case c31 => k_is)
  (case k31 => k_is)
  (case a32 => k_is)
  (case l32 => k_is)
  (case c32 => k_is)
  (case k32 => k_is)
  (case a33 => k_is)
  (case l33 => k_is)
  (case c33 => k_is)
  (case k33 => k_is)
  (case a34 => k_is)
  (case l34 => k_is)
  (case c34 => k_is)
  (case k34 => k_is)
  (case a35 => k_is)
  (case l35 => k_is)
  (case c35 => k_is)
  (case k35 => k_is)
  (case a36 => k_is)
  (case l36 => k_is)
  (case c36 => k_is)
  (case k36 => k_is)
  (case a37 => k_is)
  (case l37 => k_is)
  (case c37 => k_is)
  (case k37 => k_is)
  (case a38 => k_is)
  (case l38 => k_is)
  (case c38 => k_is)
  (case k38 => k_is)
  (case a39 => k_is)
  (case l39 => k_is)
  (case c39 => k_is)
  (case k39 => k_is)
  (case a40 => k_is)
  (case l40 => k_is)
  (case c40 => k_is)
  (case k40 => k_is)
  (case a41 => k_is)
  (case l41 => k_is)
  (case c41 => k_is)
  (case k41 => k_is)
  (case a42 => k_is)
  (case l42 => k_is)
  (case c42 => k_is)
  (case k42 => k_is)
  (case a43 => k_is)
  (case l43 => k_is)
  (case c43 => k_is)
  (case k43 => k_is)
  (case a44 => k_is)
  (case l44 => k_is)
  (case c44 => k_is)
  (case k44 => k_is)
  (case a45 => k_is)
  (case l45 => k_is)
  (case c45 => k_is)
  (case k45 => k_is)
  (case a46 => k_is)
  (case l46 => k_is)
  (case c46 => k_is)
  (case k46 => k_is)
  (case v0 => k_is)
  (case v1 => k_is)
  (case v2 => k_is)
  (case v3 => k_is)
  (case v4 => k_is)
  (case v5 => k_is)
  (case z0 => k_is)
  (case z1 => k_is)
  (case z2 => k_is)
  (case z3 => k_is)
  (case z4 => k_is)
  (case z5 => k_is)
  (case z6 => k_is)
  (case z7 => k_is)
  (case z8 => k_is)
  (case z9 => k_is)
  (case z10 => k_is)
  (case z11 => k_is)
  (case z12 => k_is)
  (case z13 => k_is)
  (case z14 => k_is)
