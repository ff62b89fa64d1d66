import PyProof.Rows.All
import Wide.All
import OpenK.AllK
import Wide.FinOn
import Lean
import PyProof.EqAt
import PyProof.EqKinds
import PyProof.TupleCall
import KE.LcSums
import KE.KDictOf
import PyProof.ZipIter
import PyProof.DictItems
import KE.KSortTup
import KE.KTryMore
import PyProof.NeKinds
import PyProof.ListCopy
import PyProof.StrCalls2
import PyProof.StrBlockL
import PyProof.SliceStr2
import PyProof.FitsReplace
import PyProof.StrLawsOcc
import KE.KIntText
import KE.KLam
import PyProof.Rows.SetFrom
import PyProof.CollectWalk
import KE.KSortedM
import PyProof.ReprRoads
import PyProof.ReprLen
import PyProof.CallFns
import KE.RegKIsAll
import PySem.Challenge.RW_meadshares_k03_laid_denied_joined
set_option Elab.async false
set_option linter.all false
set_option maxRecDepth 100000
local macro_rules | `(tactic| omega) => `(tactic| lia)
namespace L2
open PySem PySem.Spec PyProof.Rows
noncomputable abbrev Key := Sum Int Str
noncomputable def keyIs : Key → Value → Bool
  | .inl k, v => Value.isInt k v
  | .inr x, v => Value.isStrOf x v
noncomputable def keyH (w : World) : Key → Int
  | .inl k => hashInt k
  | .inr x => hashStr w x
theorem keyIs_shape : ∀ {k : Key} {v : Value}, keyIs k v = true → (∃ i t, k = Sum.inl i ∧ v = Value.int i t) ∨ (∃ x t, k = Sum.inr x ∧ v = Value.str x t)
  | .inl i, v, h => by
    obtain ⟨t, e⟩ := Value.isInt_shape (k := i) (v := v) h
    exact .inl ⟨i, t, rfl, e⟩
  | .inr x, v, h => by
    obtain ⟨t, e⟩ := Value.isStrOf_shape (x := x) (v := v) h
    exact .inr ⟨x, t, rfl, e⟩
theorem keyIs_int (i : Int) (t : Tok) : keyIs (.inl i) (.int i t) = true := by simp [keyIs, Value.isInt]
theorem keyIs_str (x : Str) (t : Tok) : keyIs (.inr x) (.str x t) = true := by simp [keyIs, Value.isStrOf]
theorem key_ll (a b : Int) : decide ((Sum.inl a : Key) = Sum.inl b) = (a == b) := by
  by_cases e : a = b
  · subst e; simp
  · have h : ¬ (Sum.inl a : Key) = Sum.inl b := fun q => e (Sum.inl.inj q)
    rw [decide_eq_false h]
    exact (beq_eq_false_iff_ne.mpr e).symm
theorem key_rr (a b : Str) : decide ((Sum.inr a : Key) = Sum.inr b) = decide (a = b) := by
  by_cases e : a = b
  · subst e; simp
  · have h : ¬ (Sum.inr a : Key) = Sum.inr b := fun q => e (Sum.inr.inj q)
    rw [decide_eq_false h, decide_eq_false e]
theorem key_lr (a : Int) (b : Str) : decide ((Sum.inl a : Key) = Sum.inr b) = false := decide_eq_false (fun q => nomatch q)
theorem key_rl (a : Str) (b : Int) : decide ((Sum.inr a : Key) = Sum.inl b) = false := decide_eq_false (fun q => nomatch q)
noncomputable def mixKind (prog : Program) (w : World) : PySem.KeyKind prog w Key where
  is := keyIs
  hash := keyH w
  inj := fun v a b ha hb => by
    rcases keyIs_shape ha with ⟨i, t, rfl, rfl⟩ | ⟨x, t, rfl, rfl⟩
    · rcases keyIs_shape hb with ⟨j, u, rfl, e⟩ | ⟨y, u, rfl, e⟩
      · injection e with e1 _; rw [e1]
      · exact nomatch e
    · rcases keyIs_shape hb with ⟨j, u, rfl, e⟩ | ⟨y, u, rfl, e⟩
      · exact nomatch e
      · injection e with e1 _; rw [e1]
  byValue := fun k v h => by
    rcases keyIs_shape h with ⟨i, t, rfl, rfl⟩ | ⟨x, t, rfl, rfl⟩ <;> rfl
  pyHash := fun hv h => by
    rcases keyIs_shape hv with ⟨i, t, rfl, rfl⟩ | ⟨x, t, rfl, rfl⟩
    · exact wpAny_pyHash_int h
    · exact wpAny_pyHash_str h
  eqBool := fun hu hv h => by
    rcases keyIs_shape hu with ⟨i, t, rfl, rfl⟩ | ⟨x, t, rfl, rfl⟩
    · rcases keyIs_shape hv with ⟨j, u, rfl, rfl⟩ | ⟨y, u, rfl, rfl⟩
      · rw [key_ll] at h; exact wpAny_eqBool_int h
      · rw [key_lr] at h; exact SeqAt.EqAt.int_str i t y u _ _ _ _ h
    · rcases keyIs_shape hv with ⟨j, u, rfl, rfl⟩ | ⟨y, u, rfl, rfl⟩
      · rw [key_rl] at h; exact SeqAt.EqAt.str_int x t j u _ _ _ _ h
      · rw [key_rr] at h; exact wpAny_eqBool_str h
  «strs» := fun k x t v h => by
    rcases keyIs_shape h with ⟨i, u, rfl, e⟩ | ⟨y, u, rfl, e⟩
    · exact nomatch e
    · injection e with e1 _
      subst e1
      cases v <;> rfl
theorem mixKind_int (prog : Program) (w : World) (i : Int) (t : Tok) : (mixKind prog w).is (.inl i) (.int i t) = true := keyIs_int i t
theorem mixKind_str (prog : Program) (w : World) (x : Str) (t : Tok) : (mixKind prog w).is (.inr x) (.str x t) = true := keyIs_str x t
end L2
namespace L2
open PySem PySem.Spec PyProof.Rows
inductive V where
  | non | bl (b : Bool) | int (i : Int) | str (x : Str) | byt (b : Array UInt8) | flt (b : UInt64) | ref (a : Addr) | ty (n : String)
  deriving DecidableEq
noncomputable def RelV : V → Value → Prop
  | .non, u => u = Value.none
  | .bl b, u => u = Value.bool b
  | .int i, u => ∃ t, u = Value.int i t
  | .str x, u => ∃ t, u = Value.str x t
  | .byt b, u => ∃ t, u = Value.bytes b t
  | .flt b, u => ∃ t, u = Value.float b t
  | .ref a, u => u = Value.ref a
  | .ty n, u => u = Value.type n
noncomputable abbrev Vals : List V → List Value → Prop := Paired RelV
theorem Vals.length {xs : List V} {us : List Value} (r : Vals xs us) : xs.length = us.length := Paired.length r
theorem Vals.get : ∀ {xs : List V} {us : List Value} {i : Nat} {x : V}, Vals xs us → xs[i]? = some x → ∃ u, us[i]? = some u ∧ RelV x u
  | _, _, _, _, .nil, e => by simp at e
  | _, _, 0, _, .cons r _, e => by simp at e; subst e; exact ⟨_, rfl, r⟩
  | _, _, i + 1, x, .cons _ t, e => by
    obtain ⟨u, h1, h2⟩ := Vals.get (i := i) (x := x) t (by simpa using e)
    exact ⟨u, by simpa using h1, h2⟩
theorem Vals.set {x : V} {u : Value} (r : RelV x u) : ∀ {xs : List V} {us : List Value} (i : Nat), Vals xs us → Vals (xs.set i x) (us.set i u)
  | _, _, _, .nil => .nil
  | _, _, 0, .cons _ t => .cons r t
  | _, _, i + 1, .cons q t => .cons q (Vals.set r i t)
theorem Vals.append : ∀ {xs ys : List V} {us ws : List Value}, Vals xs us → Vals ys ws → Vals (xs ++ ys) (us ++ ws)
  | _, _, _, _, .nil, s => s
  | _, _, _, _, .cons r t, s => .cons r (Vals.append t s)
theorem Vals.take : ∀ {xs : List V} {us : List Value} (n : Nat), Vals xs us → Vals (xs.take n) (us.take n)
  | _, _, 0, _ => .nil
  | _, _, _ + 1, .nil => .nil
  | _, _, n + 1, .cons r t => .cons r (Vals.take n t)
theorem Vals.drop : ∀ {xs : List V} {us : List Value} (n : Nat), Vals xs us → Vals (xs.drop n) (us.drop n)
  | _, _, 0, r => r
  | _, _, _ + 1, .nil => .nil
  | _, _, n + 1, .cons _ t => Vals.drop n t
noncomputable def RelO : Option V → Option Value → Prop
  | some v, some u => RelV v u
  | none, none => True
  | _, _ => False
noncomputable def KV {κ : Type} : List (κ × V) → List (κ × Value) → Prop := Paired fun (p : κ × V) (q : κ × Value) => p.1 = q.1 ∧ RelV p.2 q.2
noncomputable def kV : Key → V
  | .inl i => .int i
  | .inr x => .str x
inductive HO where
    | lst (xs : List V)
    | tup (xs : List V)
    | dK (kvs : List (Key × V)) | dT (kvs : List (List Key × V))
    | set (S : Int → Bool) (n : Nat)
    | ins (C dx : Addr) (fs : List (Str × V))
    | own (x : Addr)
    | xd (fs : List (Str × V))
    | met (f x : Addr)
    | rng (lo hi : Int)
    | frz (o : Obj) (u : HO)
    | tbl (ps : Array Value)
    | ext (φ : Heap → Prop)
noncomputable abbrev Hp := Addr → Option HO
noncomputable def upd (H : Hp) (a : Addr) (o : HO) : Hp := fun b => if b = a then some o else H b
theorem upd_same {H : Hp} {a : Addr} {o : HO} : upd H a o a = some o := by unfold upd; rw [if_pos rfl]
theorem upd_ne {H : Hp} {a b : Addr} {o : HO} (h : b ≠ a) : upd H a o b = H b := by unfold upd; rw [if_neg h]
theorem ne_of {H : Hp} {a b : Addr} {o u : HO} (h : H a = some o) (h' : H b = some u) (d : o ≠ u) : a ≠ b := by
  intro e; subst e; rw [h] at h'; exact d (Option.some.inj h')
theorem ne_of_none {H : Hp} {a b : Addr} {o : HO} (h : H a = some o) (h' : H b = none) : a ≠ b := by
  intro e; subst e; rw [h] at h'; cases h'
section
variable (P : Program) (w : World)
noncomputable def ObjOk (H : Hp) (h : Heap) (a : Addr) : HO → Prop
  | .lst xs => xs.length ≤ sizeLine ∧ ∃ (its : List Value) (n : Nat), Vals xs its ∧ h.get? a = some { cls := .type "list", data := .seq its.toArray n }
  | .tup xs => xs.length ≤ sizeLine ∧ ∃ its : List Value, Vals xs its ∧ IsTup h a its.toArray
  | .dK kvs => kvs.length ≤ sizeLine ∧ (a == sysModules) = false ∧ ∃ vs, KV kvs vs ∧ h.DictOf (mixKind P w) a vs
  | .dT kvs => kvs.length ≤ sizeLine ∧ (a == sysModules) = false ∧ ∃ xs : List (List Key × Addr × Value),
      Paired (fun (p : List Key × V) (q : List Key × Addr × Value) => p.1 = q.1 ∧ H q.2.1 = some (.tup (p.1.map kV)) ∧ RelV p.2 q.2.2) kvs xs ∧
      ∃ o es ep, h.get? a = some o ∧ o.ExactDict ∧ o.data = .dict es ep ∧ es.toList = xs.map (entryOfKey (tupleKind (mixKind P w))) ∧ (xs.map (·.1)).Nodup
  | .set S n => h.SetOf (intKind P w) a S n
  | .ins C dx fs => H dx = some (.own a) ∧ fs.length ≤ 1000 ∧ dx ≠ a ∧ h.get? a = some (PySem.W.instObj C dx) ∧
      ∃ mA, h.Ns1 dx mA ∧ (∀ f, RelO (fs.lookup f) (mA f)) ∧ PySem.Within mA (fs.map (·.1))
  | .own _ => ∃ o, h.get? a = some o
  | .xd fs => ∃ mA, h.Ns1 a mA ∧ ∀ f, RelO (fs.lookup f) (mA f)
  | .rng lo hi => ∃ t u v, h.get? a = some { cls := .type "range", data := .fields #[.int lo t, .int hi u, .int 1 v] }
  | .frz o u => h.get? a = some o ∧ ObjOk H h a u
  | .tbl ps => h.get? a = some { cls := .none, data := .fields ps }
  | .met f x => h.get? a = some (PySem.W.methodObj (.ref f) (.ref x))
  | .ext φ => φ h ∧ (∃ o, h.get? a = some o) ∧ ∀ h1 h2 : Heap, φ h1 → (∀ o, h1.get? a = some o → h2.get? a = some o) → φ h2
noncomputable def HOk (H : Hp) (h : Heap) : Prop := ∀ a o, H a = some o → ObjOk P w H h a o
end
section
variable {P : Program} {w : World} {H H' : Hp} {h h' : Heap} {a : Addr} {o : HO}
theorem ObjOk.lt (x : ObjOk P w H h a o) : a < h.objs.size := by
  cases o with
  | lst xs => obtain ⟨_, _, _, _, e⟩ := x; exact Heap.lt_size e
  | tup xs => obtain ⟨_, _, _, p⟩ := x; exact p.lt
  | dK kvs => obtain ⟨_, _, _, _, o, _, _, e, _⟩ := x; exact Heap.lt_size e
  | dT kvs => obtain ⟨_, _, _, _, o, _, _, e, _⟩ := x; exact Heap.lt_size e
  | set S n => obtain ⟨o, _, _, _, e, _⟩ := x; exact Heap.lt_size e
  | ins C dx fs => obtain ⟨_, _, _, e, _⟩ := x; exact Heap.lt_size e
  | own y => obtain ⟨_, e⟩ := x; exact Heap.lt_size e
  | xd fs => obtain ⟨_, ⟨_, _, _, e, _⟩, _⟩ := x; exact Heap.lt_size e
  | rng lo hi => obtain ⟨_, _, _, e⟩ := x; exact Heap.lt_size e
  | frz ob u => obtain ⟨e, _⟩ := x; exact Heap.lt_size e
  | tbl ps => exact Heap.lt_size (show h.get? a = some _ from x)
  | met f y => exact Heap.lt_size (show h.get? a = some _ from x)
  | ext φ => obtain ⟨_, ⟨_, e⟩, _⟩ := x; exact Heap.lt_size e
theorem Paired.mapP {α β : Type} {F G : α → β → Prop} : ∀ {l₁ : List α} {l₂ : List β}, Paired F l₁ l₂ → (∀ a b, F a b → G a b) → Paired G l₁ l₂
  | _, _, .nil, _ => .nil
  | _, _, .cons r t, f => .cons (f _ _ r) (Paired.mapP t f)
theorem ObjOk.stay (x : ObjOk P w H h a o) (k : ∀ b u, (b = a ∨ H b = some (.own a)) → h.get? b = some u → h'.get? b = some u)
    (ho : ∀ b, H b = some (.own a) → H' b = some (.own a)) (ht : ∀ b xs, H b = some (.tup xs) → H' b = some (.tup xs)) : ObjOk P w H' h' a o := by
  induction o with
  | lst xs => obtain ⟨z, its, n, r, e⟩ := x; exact ⟨z, its, n, r, k _ _ (.inl rfl) e⟩
  | tup xs => obtain ⟨z, its, r, ob, e, c⟩ := x; exact ⟨z, its, r, ob, k _ _ (.inl rfl) e, c⟩
  | dK kvs => obtain ⟨z, y, vs, r, ob, es, ep, e, c⟩ := x; exact ⟨z, y, vs, r, ob, es, ep, k _ _ (.inl rfl) e, c⟩
  | dT kvs =>
    obtain ⟨z, y, xs, r, ob, es, ep, e, c⟩ := x
    exact ⟨z, y, xs, Paired.mapP r fun p q z => ⟨z.1, ht _ _ z.2.1, z.2.2⟩, ob, es, ep, k _ _ (.inl rfl) e, c⟩
  | set S n => obtain ⟨ob, es, ep, t, e, c⟩ := x; exact ⟨ob, es, ep, t, k _ _ (.inl rfl) e, c⟩
  | ins C dx fs =>
    obtain ⟨d, z, ne, e, mA, ⟨od, es, ep, e2, c⟩, r⟩ := x
    exact ⟨ho _ d, z, ne, k _ _ (.inl rfl) e, mA, ⟨od, es, ep, k _ _ (.inr d) e2, c⟩, r⟩
  | own y => obtain ⟨ob, e⟩ := x; exact ⟨ob, k _ _ (.inl rfl) e⟩
  | xd fs => obtain ⟨mA, ⟨od, es, ep, e, c⟩, r⟩ := x; exact ⟨mA, ⟨od, es, ep, k _ _ (.inl rfl) e, c⟩, r⟩
  | rng lo hi => obtain ⟨t, u, v, e⟩ := x; exact ⟨t, u, v, k _ _ (.inl rfl) e⟩
  | frz ob u ih => obtain ⟨e, q⟩ := x; exact ⟨k _ _ (.inl rfl) e, ih q⟩
  | tbl ps =>
    have e : h.get? a = some { cls := .none, data := .fields ps } := x
    show h'.get? a = some { cls := .none, data := .fields ps }
    exact k a _ (.inl rfl) e
  | met f y =>
    have e : h.get? a = some (PySem.W.methodObj (.ref f) (.ref y)) := x
    show h'.get? a = some (PySem.W.methodObj (.ref f) (.ref y))
    exact k a _ (.inl rfl) e
  | ext φ => obtain ⟨p, ⟨o, e⟩, st⟩ := x; exact ⟨st _ _ p fun o q => k _ _ (.inl rfl) q, ⟨o, k _ _ (.inl rfl) e⟩, st⟩
theorem HOk.lt (x : HOk P w H h) (e : H a = some o) : a < h.objs.size := (x a o e).lt
theorem HOk.fresh (x : HOk P w H h) (e : h.objs.size ≤ a) : H a = none := by
  cases q : H a with
  | none => rfl
  | some u => exact absurd (Nat.lt_of_lt_of_le (x.lt q) e) (Nat.lt_irrefl _)
theorem HOk.kept (x : HOk P w H h) (k : ∀ b u, h.get? b = some u → h'.get? b = some u) : HOk P w H h' := fun a o e =>
  (x a o e).stay (fun b u _ q => k b u q) (fun _ q => q) fun _ _ q => q
theorem HOk.laid (x : HOk P w H h) (k : ∀ b u, h.get? b = some u → h'.get? b = some u) (hp : h.objs.size ≤ a) (new : ObjOk P w (upd H a o) h' a o) : HOk P w (upd H a o) h' := fun b u e => by
  have hn := x.fresh hp
  by_cases hb : b = a
  · subst hb; rw [upd_same] at e; cases e; exact new
  · rw [upd_ne hb] at e
    exact (x b u e).stay (fun c v _ q => k c v q) (fun c q => by rw [upd_ne (ne_of_none q hn)]; exact q) fun c xs q => by rw [upd_ne (ne_of_none q hn)]; exact q
end
noncomputable def Rd (H : Hp) (a : Addr) (u : HO) : Prop := H a = some u ∨ ∃ o, H a = some (.frz o u)
theorem Rd.ok {P : Program} {w : World} {H : Hp} {h : Heap} {a : Addr} {u : HO} (r : Rd H a u) (x : HOk P w H h) : ObjOk P w H h a u := by
  rcases r with r | ⟨o, r⟩
  · exact x a u r
  · obtain ⟨_, q⟩ := x a _ r
    exact q
noncomputable def Mut : Option HO → Prop
  | some (.lst _) => True
  | some (.dK _) => True
  | some (.dT _) => True
  | some (.set _ _) => True
  | some (.ins _ _ _) => True
  | some (.ext _) => True
  | _ => False
section
variable {P : Program} {w : World} {H : Hp} {h h' : Heap} {x e : Addr} {o' : HO}
theorem HOk.write (ok : HOk P w H h) (mu : Mut (H x)) (he : e = x ∨ H e = some (.own x)) (k : ∀ b u, b ≠ e → h.get? b = some u → h'.get? b = some u) (heo : ∃ u, h'.get? e = some u)
    (new : ObjOk P w (upd H x o') h' x o') : HOk P w (upd H x o') h' := fun b u q => by
  have nown : ∀ c y, H c = some (.own y) → c ≠ x := fun c y r z => by subst z; rw [r] at mu; exact mu
  have ntup : ∀ c xs, H c = some (.tup xs) → c ≠ x := fun c xs r z => by subst z; rw [r] at mu; exact mu
  by_cases hb : b = x
  · subst hb; rw [upd_same] at q; cases q; exact new
  · rw [upd_ne hb] at q
    by_cases hbe : b = e
    · have q' : H b = some (.own x) := by
        rcases he with z | z
        · exact absurd (hbe.trans z) hb
        · rw [hbe]; exact z
      rw [q] at q'; cases q'
      obtain ⟨v, hv⟩ := heo
      exact ⟨v, by rw [hbe]; exact hv⟩
    · refine (ok b u q).stay (fun c v hc r => k c v ?_ r) (fun c r => by rw [upd_ne (nown c b r)]; exact r) fun c xs r => by rw [upd_ne (ntup c xs r)]; exact r
      rcases hc with rfl | hc
      · exact hbe
      · rintro rfl
        rcases he with z | z
        · exact nown c b hc z
        · rw [hc] at z; cases z; exact hb rfl
end
structure Un (fs ex : List Addr) (H H' : Hp) (h h' : Heap) : Prop where
  keep : ∀ b o, h.get? b = some o → H b = none → b ∉ fs → b ∉ ex → h'.get? b = some o
  slot : ∀ b o, h.get? b = some o → H b = none → b ∈ fs → b ∉ ex → ∃ sl, h'.get? b = some { o with slots := sl }
  free : ∀ b o, h.get? b = some o → H b = none → b ∉ ex → H' b = none
  there : ∀ b o, h.get? b = some o → b ∉ ex → ∃ o', h'.get? b = some o'
  tups : ∀ b xs, H b = some (.tup xs) → H' b = some (.tup xs)
  frzs : ∀ b o u, H b = some (.frz o u) → H' b = some (.frz o u)
  tbls : ∀ b ps, H b = some (.tbl ps) → ∃ more, H' b = some (.tbl (ps ++ more))
section
variable {fs fs' ex ex' : List Addr} {H H1 H2 : Hp} {h h1 h2 h' : Heap} {a x e : Addr} {o : HO}
theorem Un.any (u : Un fs ex H H1 h h1) {b : Addr} {ob : Obj} (q : h.get? b = some ob) (n : H b = none) (hx : b ∉ ex) : ∃ sl, h1.get? b = some { ob with slots := sl } := by
  by_cases hb : b ∈ fs
  · exact u.slot b ob q n hb hx
  · exact ⟨ob.slots, u.keep b ob q n hb hx⟩
theorem Un.kept (k : ∀ b u, h.get? b = some u → h'.get? b = some u) : Un fs ex H H h h' :=
  ⟨fun b ob q _ _ _ => k b ob q, fun b ob q _ _ _ => ⟨ob.slots, k b ob q⟩, fun _ _ _ n _ => n, fun b ob q _ => ⟨ob, k b ob q⟩, fun _ _ q => q, fun _ _ _ q => q, fun _ ps q => ⟨#[], by rw [q]; simp⟩⟩
theorem Un.refl : Un fs ex H H h h := Un.kept fun _ _ q => q
theorem Un.laid (k : ∀ b u, h.get? b = some u → h'.get? b = some u) (hp : h.objs.size ≤ a) (hn : H a = none) : Un fs ex H (upd H a o) h h' where
  keep := fun b u q _ _ _ => k b u q
  slot := fun b u q _ _ _ => ⟨u.slots, k b u q⟩
  free := fun b u q n _ => by rw [upd_ne (Nat.ne_of_lt (Nat.lt_of_lt_of_le (Heap.lt_size q) hp))]; exact n
  there := fun b u q _ => ⟨u, k b u q⟩
  tups := fun b xs q => by rw [upd_ne (ne_of_none q hn)]; exact q
  frzs := fun b u xs q => by rw [upd_ne (ne_of_none q hn)]; exact q
  tbls := fun b ps q => ⟨#[], by rw [upd_ne (ne_of_none q hn), q]; simp⟩
theorem Un.write (mu : Mut (H x)) (he : e = x ∨ H e = some (.own x)) (k : ∀ b u, b ≠ e → h.get? b = some u → h'.get? b = some u) (heo : ∃ u, h'.get? e = some u) : Un fs ex H (upd H x o) h h' := by
  have hx : ∀ b, H b = none → b ≠ x := fun b n z => by subst z; rw [n] at mu; exact mu
  have hb : ∀ b, H b = none → b ≠ e := fun b n z => by
    subst z
    rcases he with r | r
    · exact hx b n r
    · rw [n] at r; cases r
  have hm : ∀ b u, H b = some u → ¬ Mut (some u) → b ≠ x := fun b u q nm z => by subst z; rw [q] at mu; exact nm mu
  refine ⟨fun b u q n _ _ => k b u (hb b n) q, fun b u q n _ _ => ⟨u.slots, k b u (hb b n) q⟩, fun b u q n _ => by rw [upd_ne (hx b n)]; exact n, fun b u q _ => ?_,
    fun b xs q => by rw [upd_ne (hm b _ q fun z => z)]; exact q, fun b u xs q => by rw [upd_ne (hm b _ q fun z => z)]; exact q, fun b ps q => ⟨#[], by rw [upd_ne (hm b _ q fun z => z), q]; simp⟩⟩
  by_cases hbe : b = e
  · subst hbe; exact heo
  · exact ⟨u, k b u hbe q⟩
end
noncomputable def trk (h : Heap) (H : Hp) : List Addr := (List.range h.objs.size).filter fun a => (H a).isSome
noncomputable def hidT (h : Heap) (H : Hp) : Heap := PySem.W.hideAll h (trk h H)
theorem hidT_size (h : Heap) (H : Hp) : (hidT h H).objs.size = h.objs.size := PySem.W.hideAll_size _ _
theorem hidT_get {h : Heap} {H : Hp} {b : Addr} {o : Obj} (e : h.get? b = some o) (n : H b = none) : (hidT h H).get? b = some o :=
  PySem.W.hideAll_get _ e fun hm => by
    have q : (H b).isSome = true := (List.mem_filter.mp hm).2
    rw [n] at q; simp at q
theorem of_hidT {h : Heap} {H : Hp} {b : Addr} {o : Obj} (e : (hidT h H).get? b = some o) : h.get? b = some o ∧ H b = none := by
  have e' : h.get? b = some o := PySem.W.of_hideAll (trk h H) e
  refine ⟨e', ?_⟩
  cases q : H b with
  | none => rfl
  | some x =>
    have hm : b ∈ trk h H := List.mem_filter.mpr ⟨List.mem_range.mpr (Heap.lt_size e'), by simp [q]⟩
    have z : (hidT h H).get? b = none := PySem.W.hideAll_none (trk h H) hm
    rw [z] at e; cases e
noncomputable def allNews (g h : Heap) (L : Addr) : List (Addr × Obj) := (List.range h.objs.size).filterMap fun a => if a = L ∨ (g.get? a).isSome = true then none else (h.get? a).map fun o => (a, o)
noncomputable def rest (g h : Heap) (L d : Addr) : List (Addr × Obj) := (allNews g h L).filter fun p => decide (p.1 ≠ d)
end L2
namespace L2
open PySem PySem.Spec PyProof.Rows
structure Mod (K : PySem.W.Frag) (mg : Str → Option Value) (base : Heap) : Prop where
  kin : K.In base
  glob : base.Ns mainGlobals mg
  blt : ∃ mb, base.Ns builtinsNs mb ∧ ∀ x : Str, x ≠ "__name__" → mb x = bootBuiltins x
  nolimit : base.NoLimit
structure Cx where
  prog : Program
  w : World
  K : PySem.W.Frag
  mg : Str → Option Value
  base : Heap
  A : Around
  N : List Str
  s₀ : Shared
  H₀ : Hp
  env : Env
  outer : List Env
  stack : List Env
  ex : List Addr
  fn : Str → Bool
  calm : Bool
  pn : List (Addr × Obj)
  xe : Value → Shared → Prop
noncomputable def frs (l : List Env) : List Addr := l.filterMap (·.frame)
noncomputable abbrev Cx.fs (X : Cx) : List Addr := frs X.outer
noncomputable def Vis (sc : Scope) (x : Str) : Prop := sc.names.lookup x = some .local ∨ sc.names.lookup x = some .cell ∨ sc.names.lookup x = some .free
noncomputable def Loc (sc : Scope) (x : Str) : Prop := sc.names.lookup x = some .local ∨ sc.names.lookup x = some .cell
noncomputable def Look (env : Env) (h : Heap) (m : Str → Option Value) (x : Str) (u : Value) : Prop :=
  (env.kindOf x = some .local ∧ m x = some u) ∨ ((env.kindOf x = some .cell ∨ env.kindOf x = some .free) ∧ ∃ c, env.cells.lookup x = some c ∧ h.IsCell c (some u))
structure Cx.Ok (X : Cx) : Prop where
  mod : Mod X.K X.mg X.base
  kind : X.env.scope.kind = .function
  glob : X.env.globals = mainGlobals
  blt : X.env.builtins = builtinsNs
  above : X.s₀.heap.objs.size ≤ X.env.locals
  inj : ∀ x y c, X.env.cells.lookup x = some c → X.env.cells.lookup y = some c → x = y
  has : ∀ x, (X.env.kindOf x = some .cell ∨ X.env.kindOf x = some .free) → ∃ c, X.env.cells.lookup x = some c
  cab : ∀ x c, X.fn x = true → X.env.cells.lookup x = some c → X.s₀.heap.objs.size ≤ c
  hd : X.calm = true → X.A.handled = none
  frames : X.A.frames = some X.stack
  stk : X.stack = X.outer ∨ (X.stack = X.env :: X.outer ∧ X.env.frame = some X.env.locals)
  exf : ∀ b ∈ X.ex, b ≠ X.env.locals ∧ ∀ x c, X.env.cells.lookup x = some c → c ≠ b
  bs : ∀ b o, X.base.get? b = some o → X.s₀.heap.get? b = some o ∧ X.H₀ b = none
  bsz : X.base.objs.size ≤ X.s₀.heap.objs.size
  noex : ∀ b o, X.base.get? b = some o → b ∉ X.ex
  exfs : ∀ b ∈ X.ex, b ∉ X.fs
  funs : X.s₀.heap.FunFrames X.base X.outer
  frf : ∀ b ∈ X.fs, X.H₀ b = none
structure Inv (X : Cx) (pins : List (Addr × Obj)) (σ : List (Option V)) (H : Hp) (s : Shared) : Prop where
  ok : X.Ok
  os : s.os = X.s₀.os
  bare : AllBare s.gens
  base : Un X.fs X.ex X.H₀ H X.s₀.heap s.heap
  loc : ∃ m, s.heap.Ns X.env.locals m ∧ ∀ (i : Nat) (x : Str) (v : V), X.N[i]? = some x → σ[i]? = some (some v) → Vis X.env.scope x → ∃ u, RelV v u ∧ Look X.env s.heap m x u
  cell : ∀ x c, X.env.cells.lookup x = some c → ∃ v, s.heap.IsCell c v
  free : H X.env.locals = none
  freeC : ∀ x c, X.env.cells.lookup x = some c → H c = none
  pin : ∀ p ∈ X.pn ++ pins, s.heap.get? p.1 = some p.2 ∧ H p.1 = none ∧ p.1 ≠ X.env.locals ∧ p.1 ∉ X.fs ∧ ∀ v, p.2.data ≠ .cell v
  hok : HOk X.prog X.w H s.heap
  len : σ.length = X.N.length
section
variable {X : Cx} {pins : List (Addr × Obj)} {σ : List (Option V)} {H H' : Hp} {s : Shared} {h' : Heap}
theorem Cx.Ok.nofr (ok : X.Ok) {b : Addr} {o : Obj} (e : X.base.get? b = some o) : b ∉ X.fs := fun hb => by
  have := (ok.funs.mem hb).1
  rw [e] at this; cases this
theorem Inv.bs (I : Inv X pins σ H s) : ∀ b o, X.base.get? b = some o → s.heap.get? b = some o ∧ H b = none := fun b o e =>
  ⟨I.base.keep b o (I.ok.bs b o e).1 (I.ok.bs b o e).2 (I.ok.nofr e) (I.ok.noex b o e), I.base.free b o (I.ok.bs b o e).1 (I.ok.bs b o e).2 (I.ok.noex b o e)⟩
theorem Inv.bk (I : Inv X pins σ H s) : ∀ b o, X.base.get? b = some o → s.heap.get? b = some o := fun b o e => (I.bs b o e).1
theorem Inv.mod (I : Inv X pins σ H s) : Mod X.K X.mg X.base := I.ok.mod
theorem Inv.kIn (I : Inv X pins σ H s) : X.K.In s.heap := I.ok.mod.kin.keeps I.bk
theorem Inv.lt (I : Inv X pins σ H s) : X.env.locals < s.heap.objs.size := let ⟨_, hn, _⟩ := I.loc; hn.lt
theorem Inv.sz (I : Inv X pins σ H s) : X.s₀.heap.objs.size ≤ s.heap.objs.size := Nat.le_trans I.ok.above (Nat.le_of_lt I.lt)
theorem Inv.nofs (I : Inv X pins σ H s) {a : Addr} (h : s.heap.objs.size ≤ a) : a ∉ X.fs := fun hb => by
  obtain ⟨_, o, ho, _⟩ := I.ok.funs.mem hb
  exact absurd (Nat.lt_of_lt_of_le (Heap.lt_size ho) (Nat.le_trans I.sz h)) (Nat.lt_irrefl _)
theorem Inv.cne (I : Inv X pins σ H s) : ∀ x c, X.env.cells.lookup x = some c → c ≠ X.env.locals := fun x c e z => by
  obtain ⟨v, o, ho, hd⟩ := I.cell x c e
  obtain ⟨m, ⟨o', es, ep, ho', hd', _⟩, _⟩ := I.loc
  rw [z, ho'] at ho; cases ho; rw [hd'] at hd; cases hd
theorem Inv.funs (I : Inv X pins σ H s) : s.heap.FunFrames X.base X.outer := by
  have all : ∀ (l : List Env), (∀ b ∈ frs l, b ∈ X.fs) → X.s₀.heap.FunFrames X.base l → s.heap.FunFrames X.base l := by
    intro l
    induction l with
    | nil => intro _ _; trivial
    | cons env r ih =>
      intro hs hl
      obtain ⟨hk, ⟨L, o, hf, hn, ho, hd⟩, hr⟩ := hl
      have hL : L ∈ X.fs := hs L (by unfold frs; rw [List.filterMap_cons, hf]; exact List.mem_cons_self)
      obtain ⟨sl, e⟩ := I.base.slot L o ho (I.ok.frf L hL) hL fun z => I.ok.exfs L z hL
      exact ⟨hk, ⟨L, _, hf, hn, e, hd⟩, ih (fun b hb => hs b (by unfold frs; rw [List.filterMap_cons, hf]; exact List.mem_cons_of_mem _ hb)) hr⟩
  exact all X.outer (fun _ hb => hb) I.ok.funs
theorem Inv.stack (I : Inv X pins σ H s) : s.heap.FunFrames X.base X.stack := by
  rcases I.ok.stk with e | ⟨e, hf⟩
  · rw [e]; exact I.funs
  · rw [e]
    obtain ⟨m, hn, _⟩ := I.loc
    refine .cons (by rw [I.ok.kind]; decide) hf hn ?_ I.funs
    exact Heap.get?_none_of_le (Nat.le_trans I.ok.bsz I.ok.above)
theorem Inv.stkSub (I : Inv X pins σ H s) : ∀ b ∈ frs X.stack, b ∈ X.env.locals :: X.fs := fun b hb => by
  rcases I.ok.stk with e | ⟨e, hf⟩
  · rw [e] at hb; exact List.mem_cons_of_mem _ hb
  · rw [e] at hb
    unfold frs at hb
    rw [List.filterMap_cons, hf] at hb
    exact hb
theorem Inv.stkFree (I : Inv X pins σ H s) : ∀ b ∈ frs X.stack, H b = none := fun b hb => by
  rcases List.mem_cons.mp (I.stkSub b hb) with e | hb
  · rw [e]; exact I.free
  · obtain ⟨_, o, ho, _⟩ := I.ok.funs.mem hb
    exact I.base.free b o ho (I.ok.frf b hb) fun z => I.ok.exfs b z hb
theorem Inv.step {g' : Array GenState} {t' : Nat} {d' : Drawn} {ch : List Addr} (I : Inv X pins σ H s)
    (hch : ∀ b ∈ ch, (b ∈ X.ex ∨ X.s₀.heap.objs.size ≤ b) ∧ b ≠ X.env.locals ∧ (∀ x c, X.env.cells.lookup x = some c → c ≠ b) ∧ ∀ p ∈ X.pn ++ pins, p.1 ≠ b)
    (keep : ∀ b o, b ≠ X.env.locals → b ∉ X.fs → b ∉ ch → s.heap.get? b = some o → H b = none → h'.get? b = some o)
    (slot : ∀ b o, b ≠ X.env.locals → b ∈ X.fs → b ∉ ch → s.heap.get? b = some o → H b = none → ∃ sl, h'.get? b = some { o with slots := sl }) (free : ∀ b o, b ∉ ch → s.heap.get? b = some o → H b = none → H' b = none)
    (there : ∀ b o, b ∉ ch → s.heap.get? b = some o → ∃ o', h'.get? b = some o')
    (tups : ∀ b xs, H b = some (.tup xs) → H' b = some (.tup xs)) (frzs : ∀ b o u, H b = some (.frz o u) → H' b = some (.frz o u)) (tbls : ∀ b ps, H b = some (.tbl ps) → ∃ more, H' b = some (.tbl (ps ++ more)))
    (ns : ∀ m, s.heap.Ns X.env.locals m → h'.Ns X.env.locals m) (hok : HOk X.prog X.w H' h') (hg : AllBare g') :
    Inv X pins σ H' { s with heap := h', gens := g', drawn := d', toks := t' } := by
  have neL : ∀ b o, X.s₀.heap.get? b = some o → b ≠ X.env.locals := fun b o e => Nat.ne_of_lt (Nat.lt_of_lt_of_le (Heap.lt_size e) I.ok.above)
  have neC : ∀ b o, X.s₀.heap.get? b = some o → b ∉ X.ex → b ∉ ch := fun b o e hx hb => by
    rcases (hch b hb).1 with z | z
    · exact hx z
    · exact absurd (Nat.lt_of_lt_of_le (Heap.lt_size e) z) (Nat.lt_irrefl _)
  have cellK : ∀ x c, X.env.cells.lookup x = some c → ∀ v, s.heap.IsCell c v → h'.IsCell c v := fun x c e v ⟨o, ho, hd⟩ => by
    have nch : c ∉ ch := fun z => (hch c z).2.2.1 x c e rfl
    by_cases hc : c ∈ X.fs
    · obtain ⟨sl, q⟩ := slot c o (I.cne x c e) hc nch ho (I.freeC x c e)
      exact ⟨_, q, hd⟩
    · exact ⟨o, keep c o (I.cne x c e) hc nch ho (I.freeC x c e), hd⟩
  refine ⟨I.ok, I.os, hg, ⟨fun b o e n hb hx => ?_, fun b o e n hb hx => ?_, fun b o e n hx => ?_, fun b o e hx => ?_, fun b xs e => tups b xs (I.base.tups b xs e), fun b o xs e => frzs b o xs (I.base.frzs b o xs e), fun b ps e => ?_⟩, ?_, fun x c e => ?_, ?_, fun x c e => ?_, fun p hp => ?_, hok, I.len⟩
  · exact keep b o (neL b o e) hb (neC b o e hx) (I.base.keep b o e n hb hx) (I.base.free b o e n hx)
  · obtain ⟨sl, e1⟩ := I.base.slot b o e n hb hx
    obtain ⟨sl', e2⟩ := slot b _ (neL b o e) hb (neC b o e hx) e1 (I.base.free b o e n hx)
    exact ⟨sl', e2⟩
  · obtain ⟨o', e1⟩ := I.base.there b o e hx
    exact free b o' (neC b o e hx) e1 (I.base.free b o e n hx)
  · obtain ⟨o', e1⟩ := I.base.there b o e hx
    exact there b o' (neC b o e hx) e1
  · obtain ⟨m1, e1⟩ := I.base.tbls b ps e
    obtain ⟨m2, e2⟩ := tbls b _ e1
    exact ⟨m1 ++ m2, by rw [e2, Array.append_assoc]⟩
  · obtain ⟨m, hn, hl⟩ := I.loc
    refine ⟨m, ns m hn, fun i x v e1 e2 e3 => ?_⟩
    obtain ⟨u, r, l⟩ := hl i x v e1 e2 e3
    refine ⟨u, r, ?_⟩
    rcases l with l | ⟨k, c, e, z⟩
    · exact .inl l
    · exact .inr ⟨k, c, e, cellK x c e _ z⟩
  · obtain ⟨v, z⟩ := I.cell x c e
    exact ⟨v, cellK x c e v z⟩
  · obtain ⟨m, ⟨o, _, _, ho, _⟩, _⟩ := I.loc
    exact free _ o (fun z => (hch _ z).2.1 rfl) ho I.free
  · obtain ⟨v, o, ho, hd⟩ := I.cell x c e
    exact free c o (fun z => (hch c z).2.2.1 x c e rfl) ho (I.freeC x c e)
  · obtain ⟨e, n, ne, nf, d⟩ := I.pin p hp
    have nch : p.1 ∉ ch := fun z => (hch p.1 z).2.2.2 p hp rfl
    exact ⟨keep p.1 p.2 ne nf nch e n, free p.1 p.2 nch e n, ne, nf, d⟩
theorem Inv.un {t' : Nat} (I : Inv X pins σ H s) (u : Un X.fs [] H H' s.heap h') (hok : HOk X.prog X.w H' h') : Inv X pins σ H' { s with heap := h', toks := t' } := by
  obtain ⟨m, ⟨o, es, ep, ho, r⟩, _⟩ := id I.loc
  obtain ⟨sl, hL⟩ := u.any ho I.free (by simp)
  exact I.step (g' := s.gens) (d' := s.drawn) (ch := []) (fun _ z => nomatch z) (fun b o _ hb _ e n => u.keep b o e n hb (by simp)) (fun b o _ hb _ e n => u.slot b o e n hb (by simp)) (fun b o _ e n => u.free b o e n (by simp)) (fun b o _ e => u.there b o e (by simp)) u.tups u.frzs u.tbls (fun m' hm => by
    obtain ⟨o', es', ep', ho', r'⟩ := hm
    rw [ho] at ho'; cases ho'
    exact ⟨_, es', ep', hL, r'⟩) hok I.bare
theorem Inv.call {g' : Array GenState} {t' : Nat} {d' : Drawn} {ch : List Addr} (I : Inv X pins σ H s) (u : Un (frs X.stack) ch H H' s.heap h') (hok : HOk X.prog X.w H' h') (hg : AllBare g')
    (hch : ∀ b ∈ ch, (b ∈ X.ex ∨ X.s₀.heap.objs.size ≤ b) ∧ b ≠ X.env.locals ∧ (∀ x c, X.env.cells.lookup x = some c → c ≠ b) ∧ ∀ p ∈ X.pn ++ pins, p.1 ≠ b) :
    Inv X pins σ H' { s with heap := h', gens := g', drawn := d', toks := t' } := by
  obtain ⟨m, ⟨o, es, ep, ho, r⟩, _⟩ := id I.loc
  obtain ⟨sl, hL⟩ := u.any ho I.free fun z => (hch _ z).2.1 rfl
  exact I.step (ch := ch) hch (fun b o hL hb hc e n => u.keep b o e n (fun z => (List.mem_cons.mp (I.stkSub b z)).elim hL hb) hc) (fun b o _ _ hc e n => u.any e n hc) (fun b o hc e n => u.free b o e n hc) (fun b o hc e => u.there b o e hc) u.tups u.frzs u.tbls (fun m' hm => by
    obtain ⟨o', es', ep', ho', r'⟩ := hm
    rw [ho] at ho'; cases ho'
    exact ⟨_, es', ep', hL, r'⟩) hok hg
theorem Inv.turned {t' : Nat} {it : Addr} (I : Inv X pins σ H s) (k : ∀ b o, b ≠ it → s.heap.get? b = some o → h'.get? b = some o) (hn : H it = none) (hL : it ≠ X.env.locals)
    (h1 : it ∈ X.ex ∨ X.s₀.heap.objs.size ≤ it) (h2 : ∀ x c, X.env.cells.lookup x = some c → c ≠ it) (h3 : ∀ p ∈ X.pn ++ pins, p.1 ≠ it) : Inv X pins σ H { s with heap := h', toks := t' } := by
  have nit : ∀ b u, H b = some u → b ≠ it := fun b u e z => by rw [z, hn] at e; cases e
  refine I.step (g' := s.gens) (d' := s.drawn) (ch := [it]) (fun b hb => ?_) (fun b o _ _ hc e _ => k b o (fun z => hc (by simp [z])) e) (fun b o _ _ hc e _ => ⟨o.slots, k b o (fun z => hc (by simp [z])) e⟩) (fun _ _ _ _ n => n)
    (fun b o hc e => ⟨o, k b o (fun z => hc (by simp [z])) e⟩) (fun _ _ e => e) (fun _ _ _ e => e) (fun b ps e => ⟨#[], by rw [e]; simp⟩) (fun m hm => ?_) (fun b u e => ?_) I.bare
  · have e : b = it := by simpa using hb
    subst e
    exact ⟨h1, hL, h2, h3⟩
  · obtain ⟨o, es, ep, ho, r⟩ := hm
    exact ⟨o, es, ep, k _ o (Ne.symm hL) ho, r⟩
  · refine (I.hok b u e).stay (fun c v hc q => k c v ?_ q) (fun _ q => q) fun _ _ q => q
    rcases hc with z | z
    · rw [z]; exact nit b u e
    · exact nit c _ z
theorem Inv.tok (I : Inv X pins σ H s) (t : Nat) : Inv X pins σ H { s with toks := t } := I.un (h' := s.heap) (t' := t) Un.refl I.hok
theorem Inv.kept {t' : Nat} (I : Inv X pins σ H s) (k : ∀ b u, s.heap.get? b = some u → h'.get? b = some u) : Inv X pins σ H { s with heap := h', toks := t' } := I.un (Un.kept k) (I.hok.kept k)
theorem Inv.laid {a : Addr} {o : HO} {t' : Nat} (I : Inv X pins σ H s) (k : ∀ b u, s.heap.get? b = some u → h'.get? b = some u) (hp : s.heap.objs.size ≤ a) (new : ObjOk X.prog X.w (upd H a o) h' a o) :
    Inv X pins σ (upd H a o) { s with heap := h', toks := t' } := I.un (Un.laid k hp (I.hok.fresh hp)) (I.hok.laid k hp new)
theorem Inv.write {x e : Addr} {o : HO} {t' : Nat} (I : Inv X pins σ H s) (mu : Mut (H x)) (he : e = x ∨ H e = some (.own x)) (k : ∀ b u, b ≠ e → s.heap.get? b = some u → h'.get? b = some u) (heo : ∃ u, h'.get? e = some u)
    (new : ObjOk X.prog X.w (upd H x o) h' x o) : Inv X pins σ (upd H x o) { s with heap := h', toks := t' } := I.un (Un.write mu he k heo) (I.hok.write mu he k heo new)
theorem Inv.weak {σ' : List (Option V)} (I : Inv X pins σ H s) (hl : σ'.length = σ.length) (w : ∀ (i : Nat) v, σ'[i]? = some (some v) → σ[i]? = some (some v)) : Inv X pins σ' H s :=
  ⟨I.ok, I.os, I.bare, I.base, let ⟨m, hn, hl'⟩ := I.loc; ⟨m, hn, fun i x v e1 e2 e3 => hl' i x v e1 (w i v e2) e3⟩, I.cell, I.free, I.freeC, I.pin, I.hok, hl.trans I.len⟩
theorem Inv.pins_of {pins' : List (Addr × Obj)} (I : Inv X pins σ H s) (h : ∀ p ∈ pins', s.heap.get? p.1 = some p.2 ∧ H p.1 = none ∧ p.1 ≠ X.env.locals ∧ p.1 ∉ X.fs ∧ ∀ v, p.2.data ≠ .cell v) : Inv X pins' σ H s :=
  ⟨I.ok, I.os, I.bare, I.base, I.loc, I.cell, I.free, I.freeC, fun p hp => (List.mem_append.mp hp).elim (fun z => I.pin p (List.mem_append_left _ z)) (h p), I.hok, I.len⟩
theorem nodup_ix {N : List Str} (hN : N.Nodup) {i j : Nat} {x : Str} (a : N[i]? = some x) (b : N[j]? = some x) : i = j := by
  obtain ⟨h1, e1⟩ := List.getElem?_eq_some_iff.mp a
  obtain ⟨h2, e2⟩ := List.getElem?_eq_some_iff.mp b
  exact (List.getElem_inj hN).mp (e1.trans e2.symm)
theorem store_ok2 {M : Model} {A : Around} {E : Value → Shared → Prop} {i : Nat} {x : Str} {v : V} {u : Value} {Q : Unit → Shared → Prop} (I : Inv X pins σ H s) (hN : X.N.Nodup) (hi : X.N[i]? = some x) (hx : Loc X.env.scope x) (r : RelV v u)
    (h : ∀ s', Inv X pins (σ.set i (some v)) H s' → (∃ a, Heap.SameBut a s.heap s'.heap ∧ (a = X.env.locals ∨ X.env.cells.lookup x = some a)) → Q () s') (hf : X.fn x = true ∨ X.env.scope.names.lookup x = some .local := by first | exact .inl rfl | exact .inr rfl | assumption) : wpAny M A (storeName X.env x u) Q E s := by
  obtain ⟨m, hn, hl⟩ := id I.loc
  have hcls : (X.env.scope.kind == .class || (X.env.scope.kind == .module && X.env.locals != X.env.globals)) = false := by rw [I.ok.kind]; rfl
  have hiσ : i < σ.length := by rw [I.len]; exact (List.getElem?_eq_some_iff.mp hi).1
  have cne := I.cne
  have tracked : ∀ {a : Addr} {h' : Heap}, (∃ o, s.heap.get? a = some o ∧ H a = none) → Heap.SameBut a s.heap h' → HOk X.prog X.w H h' := fun {a h'} ha hs b ob e => by
    obtain ⟨_, _, hfree⟩ := ha
    refine (I.hok b ob e).stay (fun c w' hc q => (hs.2 c ?_).trans q) (fun _ q => q) fun _ _ q => q
    rintro rfl
    rcases hc with rfl | hc
    · rw [hfree] at e; cases e
    · rw [hfree] at hc; cases hc
  rcases hx with hk | hk
  · refine wpAny_storeName_local hk hn (fun h' hn' hs => ?_) hcls
    obtain ⟨oL, _, _, hoL, _⟩ := id hn
    refine h _ ⟨I.ok, I.os, I.bare, ⟨fun b o e n hb hx => ?_, fun b o e n hb hx => ?_, I.base.free, fun b o e hx => ?_, I.base.tups, I.base.frzs, I.base.tbls⟩, ⟨_, hn', fun j y v' e1 e2 e3 => ?_⟩, fun y c e => ?_, I.free, I.freeC, fun p hp => ?_, tracked ⟨oL, hoL, I.free⟩ hs, by simpa using I.len⟩ ⟨_, hs, .inl rfl⟩
    · exact (hs.2 b (Nat.ne_of_lt (Nat.lt_of_lt_of_le (Heap.lt_size e) I.ok.above))).trans (I.base.keep b o e n hb hx)
    · obtain ⟨sl, e1⟩ := I.base.slot b o e n hb hx
      exact ⟨sl, (hs.2 b (Nat.ne_of_lt (Nat.lt_of_lt_of_le (Heap.lt_size e) I.ok.above))).trans e1⟩
    · obtain ⟨o', e1⟩ := I.base.there b o e hx
      exact ⟨o', (hs.2 b (Nat.ne_of_lt (Nat.lt_of_lt_of_le (Heap.lt_size e) I.ok.above))).trans e1⟩
    · by_cases hj : j = i
      · subst hj
        rw [hi] at e1; cases e1
        rw [List.getElem?_set_self hiσ] at e2
        cases e2
        exact ⟨u, r, .inl ⟨hk, by simp⟩⟩
      · rw [List.getElem?_set_ne (Ne.symm hj)] at e2
        obtain ⟨u', r', q⟩ := hl j y v' e1 e2 e3
        refine ⟨u', r', ?_⟩
        rcases q with ⟨k, e⟩ | ⟨k, c, e, z⟩
        · refine .inl ⟨k, ?_⟩
          have : y ≠ x := fun e => hj (nodup_ix hN e1 (e ▸ hi))
          simp [this, e]
        · exact .inr ⟨k, c, e, z.sameBut hs (cne y c e)⟩
    · obtain ⟨w', z⟩ := I.cell y c e
      exact ⟨w', z.sameBut hs (cne y c e)⟩
    · obtain ⟨e, n, ne, nf, d⟩ := I.pin p hp
      exact ⟨(hs.2 p.1 ne).trans e, n, ne, nf, d⟩
  · have hfn : X.fn x = true := by
      rcases hf with z | z
      · exact z
      · rw [z] at hk; cases hk
    obtain ⟨c, hc⟩ := I.ok.has x (.inl hk)
    obtain ⟨w', z⟩ := I.cell x c hc
    refine wpAny_storeName_cell I.ok.kind hk hc z (fun h' hc' hs => ?_)
    obtain ⟨oc, hoc, hocd⟩ := id z
    refine h { s with heap := h' } ⟨I.ok, I.os, I.bare, ⟨fun b o e n hb hx => ?_, fun b o e n hb hx => ?_, I.base.free, fun b o e hx => ?_, I.base.tups, I.base.frzs, I.base.tbls⟩, ⟨m, hn.sameBut hs (Ne.symm (cne x c hc)), fun j y v' e1 e2 e3 => ?_⟩, fun y c' e => ?_, I.free, I.freeC, fun p hp => ?_, tracked ⟨oc, hoc, I.freeC x c hc⟩ hs, by simpa using I.len⟩ ⟨c, hs, .inr hc⟩
    · exact (hs.2 b (Nat.ne_of_lt (Nat.lt_of_lt_of_le (Heap.lt_size e) (I.ok.cab x c hfn hc)))).trans (I.base.keep b o e n hb hx)
    · obtain ⟨sl, e1⟩ := I.base.slot b o e n hb hx
      exact ⟨sl, (hs.2 b (Nat.ne_of_lt (Nat.lt_of_lt_of_le (Heap.lt_size e) (I.ok.cab x c hfn hc)))).trans e1⟩
    · obtain ⟨o', e1⟩ := I.base.there b o e hx
      exact ⟨o', (hs.2 b (Nat.ne_of_lt (Nat.lt_of_lt_of_le (Heap.lt_size e) (I.ok.cab x c hfn hc)))).trans e1⟩
    · by_cases hj : j = i
      · subst hj
        rw [hi] at e1; cases e1
        rw [List.getElem?_set_self hiσ] at e2
        cases e2
        exact ⟨u, r, .inr ⟨.inl hk, c, hc, hc'⟩⟩
      · rw [List.getElem?_set_ne (Ne.symm hj)] at e2
        obtain ⟨u', r', q⟩ := hl j y v' e1 e2 e3
        refine ⟨u', r', ?_⟩
        rcases q with q | ⟨k, c', e, z'⟩
        · exact .inl q
        · refine .inr ⟨k, c', e, z'.sameBut hs ?_⟩
          rintro rfl
          exact hj (nodup_ix hN e1 (I.ok.inj _ _ _ e hc ▸ hi))
    · by_cases hcc : c' = c
      · subst hcc; exact ⟨_, hc'⟩
      · obtain ⟨w2, z2⟩ := I.cell y c' e
        exact ⟨w2, z2.sameBut hs hcc⟩
    · obtain ⟨e, n, ne, nf, d⟩ := I.pin p hp
      refine ⟨(hs.2 p.1 ?_).trans e, n, ne, nf, d⟩
      intro q
      rw [q, hoc] at e
      have q' : oc = p.2 := Option.some.inj e
      exact d w' (by rw [← q']; exact hocd)
theorem store_ok {M : Model} {A : Around} {E : Value → Shared → Prop} {i : Nat} {x : Str} {v : V} {u : Value} {Q : Unit → Shared → Prop} (I : Inv X pins σ H s) (hN : X.N.Nodup) (hi : X.N[i]? = some x) (hx : Loc X.env.scope x) (r : RelV v u)
    (h : ∀ s', Inv X pins (σ.set i (some v)) H s' → Q () s') (hf : X.fn x = true ∨ X.env.scope.names.lookup x = some .local := by first | exact .inl rfl | exact .inr rfl | assumption) : wpAny M A (storeName X.env x u) Q E s :=
  store_ok2 I hN hi hx r (fun s' I' _ => h s' I') hf
theorem Inv.call' {s' : Shared} {ch : List Addr} (I : Inv X pins σ H s) (ho : s'.os = s.os) (u : Un (frs X.stack) ch H H' s.heap s'.heap) (hok : HOk X.prog X.w H' s'.heap) (hg : AllBare s'.gens)
    (hch : ∀ b ∈ ch, (b ∈ X.ex ∨ X.s₀.heap.objs.size ≤ b) ∧ b ≠ X.env.locals ∧ (∀ x c, X.env.cells.lookup x = some c → c ≠ b) ∧ ∀ p ∈ X.pn ++ pins, p.1 ≠ b) : Inv X pins σ H' s' := by
  obtain ⟨h', g', d', t', o'⟩ := s'
  have e : o' = s.os := ho
  subst e
  exact I.call (g' := g') (t' := t') (d' := d') u hok hg hch
end
noncomputable abbrev XK := Value → Option Addr → Hp → Prop
noncomputable abbrev St := List (Option V)
noncomputable abbrev VK := V → Hp → Prop
noncomputable abbrev TE := St → Hp → VK → Prop
noncomputable abbrev TT := St → Hp → (Bool → Hp → Prop) → Prop
noncomputable abbrev TA := St → Hp → (List V → Hp → Prop) → Prop
structure Ends where
  nx : St → Hp → Prop
  rt : VK
  bk : St → Hp → Prop := fun _ _ => False
  ct : St → Hp → Prop := fun _ _ => False
noncomputable abbrev TS := Ends → St → Hp → Prop
noncomputable def EP (X : Cx) (pins : List (Addr × Obj)) (σ : St) (Q : VK) (u : Value) (s' : Shared) : Prop := ∃ v H', Inv X pins σ H' s' ∧ RelV v u ∧ Q v H'
noncomputable def TP (X : Cx) (pins : List (Addr × Obj)) (σ : St) (Q : Bool → Hp → Prop) (b : Bool) (s' : Shared) : Prop := ∃ H', Inv X pins σ H' s' ∧ Q b H'
noncomputable def AP (X : Cx) (pins : List (Addr × Obj)) (σ : St) (Q : List V → Hp → Prop) (us : List Value) (s' : Shared) : Prop := ∃ vs H', Inv X pins σ H' s' ∧ Vals vs us ∧ Q vs H'
noncomputable def SP (X : Cx) (pins : List (Addr × Obj)) (D : Ends) (f : Flow) (s' : Shared) : Prop :=
  match f with
  | .next => ∃ σ' H', Inv X pins σ' H' s' ∧ D.nx σ' H'
  | .brk => ∃ σ' H', Inv X pins σ' H' s' ∧ D.bk σ' H'
  | .cont => ∃ σ' H', Inv X pins σ' H' s' ∧ D.ct σ' H'
  | .ret u => ∃ v σ' H', Inv X pins σ' H' s' ∧ RelV v u ∧ D.rt v H'
noncomputable def PE (X : Cx) (e : Expr) (t : TE) : Prop :=
  ∀ (pins : List (Addr × Obj)) (s : Shared) (σ : St) (H : Hp) (Q : VK), Inv X pins σ H s → t σ H Q → wpAny (model X.prog X.w) X.A (eval e X.env) (EP X pins σ Q) X.xe s
noncomputable def PT (X : Cx) (e : Expr) (t : TT) : Prop :=
  ∀ (pins : List (Addr × Obj)) (s : Shared) (σ : St) (H : Hp) (Q : Bool → Hp → Prop), Inv X pins σ H s → t σ H Q → wpAny (model X.prog X.w) X.A (isTrue e X.env (eval e X.env)) (TP X pins σ Q) X.xe s
noncomputable def PW (X : Cx) (e : Expr) (t : TT) : Prop :=
  ∀ (whole : Sem Value) (pins : List (Addr × Obj)) (s : Shared) (σ : St) (H : Hp) (Q : Bool → Hp → Prop), Inv X pins σ H s → t σ H Q → wpAny (model X.prog X.w) X.A (isTrue e X.env whole) (TP X pins σ Q) X.xe s
theorem PW.pt {X : Cx} {e : Expr} {t : TT} (h : PW X e t) : PT X e t := h _
noncomputable def PA (X : Cx) (es : List Expr) (t : TA) : Prop :=
  ∀ (pos : Pos) (pins : List (Addr × Obj)) (s : Shared) (σ : St) (H : Hp) (Q : List V → Hp → Prop), Inv X pins σ H s → t σ H Q → wpAny (model X.prog X.w) X.A (spliced (backTo pos (starEach es X.env))) (AP X pins σ Q) X.xe s
noncomputable def PS (X : Cx) (st : Stmt) (t : TS) : Prop :=
  ∀ (pins : List (Addr × Obj)) (s : Shared) (σ : St) (H : Hp) (D : Ends), Inv X pins σ H s → t D σ H → wpAny (model X.prog X.w) X.A (exec st X.env) (SP X pins D) X.xe s
noncomputable def PSs (X : Cx) (st : List Stmt) (t : TS) : Prop :=
  ∀ (pins : List (Addr × Obj)) (s : Shared) (σ : St) (H : Hp) (D : Ends), Inv X pins σ H s → t D σ H → wpAny (model X.prog X.w) X.A (execs st X.env) (SP X pins D) X.xe s
theorem thn {α : Type} {t : Sem α} {Q Q' : α → Shared → Prop} {M : Model} {A : Around} {E : Value → Shared → Prop} {s : Shared} (h : wpAny M A t Q E s) (hQ : ∀ a s, Q a s → Q' a s) : wpAny M A t Q' E s := wpAny_mono h hQ fun _ _ x => x
end L2
namespace L2
open PySem PySem.Spec PyProof.Rows
section
variable {X : Cx}
noncomputable def tVar (i : Nat) : TE := fun σ H Q => ∃ v, σ[i]? = some (some v) ∧ Q v H
noncomputable def tC (v : V) : TE := fun _ H Q => Q v H
theorem pe_var {i : Nat} {x : Str} {pos : Pos} (hN : X.N[i]? = some x) (hv : Vis X.env.scope x) (hd : (x == ("__debug__" : Str)) = false := by decide) (hcd : (x == ("__classdict__" : Str)) = false := by decide) : PE X (.Name x pos) (tVar i) := by
  intro pins s σ H Q I h
  obtain ⟨v, e, h⟩ := h
  obtain ⟨m, hn, hl⟩ := I.loc
  obtain ⟨u, r, l⟩ := hl i x v hN e hv
  have fin : EP X pins σ Q u s := ⟨v, H, I, r, h⟩
  rcases l with ⟨hk, hm⟩ | ⟨hk, c, hc, hcell⟩
  · exact wpAny_Name (wpAny_loadName_local I.ok.kind hk hn hm fin) hd
  · rcases hk with hk | hk
    · exact wpAny_Name (wpAny_loadName_cell I.ok.kind hk hc hcell fin) hd
    · exact wpAny_Name (wpAny_loadName_free I.ok.kind hk hc hcell fin hcd) hd
theorem pe_int {i j pos} : PE X (.Constant (.int i) j pos) (tC (.int i)) := fun _ _ _ H _ I h => wpAny_Constant_int ⟨.int i, H, I.tok _, ⟨_, rfl⟩, h⟩
theorem pe_bl {b j pos} : PE X (.Constant (.bool b) j pos) (tC (.bl b)) := fun _ _ _ H _ I h => Constant_bool ⟨.bl b, H, I, rfl, h⟩
theorem pe_str {x j pos} : PE X (.Constant (.str x) j pos) (tC (.str x)) := fun _ _ _ H _ I h => Calls.Constant_str ⟨.str x, H, I.tok _, ⟨_, rfl⟩, h⟩
noncomputable def Gl (X : Cx) (x : Str) : Prop := X.env.kindOf x = some .globalImplicit
theorem ld_glob {E : Value → Shared → Prop} {pins : List (Addr × Obj)} {s : Shared} {σ : St} {H : Hp} {x : Str} {u : Value} {pos : Pos} {Q : Value → Shared → Prop} (I : Inv X pins σ H s) (hg : Gl X x) (hm : X.mg x = some u) (h : Q u s)
    (hd : (x == ("__debug__" : Str)) = false := by decide) : wpAny (model X.prog X.w) X.A (eval (.Name x pos) X.env) Q E s :=
  Calls.Name_function_global I.ok.kind hg (Calls.loadGlobal_global (by rw [I.ok.glob]; exact I.mod.glob.keeps I.bk) hm h) hd
theorem ld_blt {E : Value → Shared → Prop} {pins : List (Addr × Obj)} {s : Shared} {σ : St} {H : Hp} {x : Str} {u : Value} {pos : Pos} {Q : Value → Shared → Prop} (I : Inv X pins σ H s) (hg : Gl X x) (hm : X.mg x = none) (hv : bootBuiltins x = some u) (h : Q u s)
    (hn : x ≠ "__name__" := by decide) (hd : (x == ("__debug__" : Str)) = false := by decide) : wpAny (model X.prog X.w) X.A (eval (.Name x pos) X.env) Q E s := by
  obtain ⟨mb, h1, h2⟩ := I.mod.blt
  exact Calls.Name_function_global I.ok.kind hg (Calls.loadGlobal_builtin (by rw [I.ok.glob]; exact I.mod.glob.keeps I.bk) hm (by rw [I.ok.blt]; exact h1.keeps I.bk) ((h2 x hn).trans hv) h) hd
theorem pe_glob {x : Str} {v : V} {u : Value} {pos : Pos} (hg : Gl X x) (hm : X.mg x = some u) (r : RelV v u) (hd : (x == ("__debug__" : Str)) = false := by decide) : PE X (.Name x pos) (tC v) :=
  fun _ _ _ H _ I h => ld_glob I hg hm ⟨v, H, I, r, h⟩ hd
theorem pe_bltn {x : Str} {v : V} {u : Value} {pos : Pos} (hg : Gl X x) (hm : X.mg x = none) (hv : bootBuiltins x = some u) (r : RelV v u) (hn : x ≠ "__name__" := by decide) (hd : (x == ("__debug__" : Str)) = false := by decide) : PE X (.Name x pos) (tC v) :=
  fun _ _ _ H _ I h => ld_blt I hg hm hv ⟨v, H, I, r, h⟩ hn hd
variable {a b : Expr} {ta tb : TE} {pos : Pos}
noncomputable def tB (t : TE) : TT := fun σ H Q => t σ H fun x H1 => ∃ c, x = .bl c ∧ Q c H1
theorem pt_val {e : Expr} {t : TE} (h : PE X e t) (he : ∀ whole, isTrue e X.env whole = (do let v ← whole; standAt e.pos; holding [v] (truthy v)) := by intro _; rfl) : PT X e (tB t) := by
  intro pins s σ H Q I hw
  refine isTrue_plain (thn (h pins s σ H _ I hw) fun v s1 ⟨x, H1, I1, r1, q1⟩ => ?_) (he _)
  obtain ⟨d, rfl, q⟩ := q1
  cases r1
  exact wpAny_truthy_bool ⟨H1, I1, q⟩
variable {tA tB' : TT} {rest : List Expr}
noncomputable def tAnd (t u : TT) : TT := fun σ H Q => t σ H fun c H1 => if c = true then u σ H1 Q else Q false H1
noncomputable def tOr (t u : TT) : TT := fun σ H Q => t σ H fun c H1 => if c = true then Q true H1 else u σ H1 Q
noncomputable def tNot (t : TT) : TT := fun σ H Q => t σ H fun c H1 => Q (!c) H1
theorem pw_and1 (ha : PT X a tA) : PW X (.BoolOp .And [a] pos) tA := by
  intro wh pins s σ H Q I h
  refine isTrue_and (thn (ha pins s σ H Q I h) fun c s1 e => ?_)
  cases c with
  | true => exact isTrue_and_nil e
  | false => exact e
theorem pw_or1 (ha : PT X a tA) : PW X (.BoolOp .Or [a] pos) tA := by
  intro wh pins s σ H Q I h
  refine isTrue_or (thn (ha pins s σ H Q I h) fun c s1 e => ?_)
  cases c with
  | false => exact isTrue_or_nil e
  | true => exact e
theorem pw_and (ha : PT X a tA) (hb : PW X (.BoolOp .And (b :: rest) pos) tB') : PW X (.BoolOp .And (a :: b :: rest) pos) (tAnd tA tB') := by
  intro wh pins s σ H Q I h
  refine isTrue_and (thn (ha pins s σ H _ I h) fun c s1 ⟨H1, I1, q1⟩ => ?_)
  cases c with
  | true => exact hb wh pins s1 σ H1 Q I1 q1
  | false => exact ⟨H1, I1, q1⟩
theorem pw_or (ha : PT X a tA) (hb : PW X (.BoolOp .Or (b :: rest) pos) tB') : PW X (.BoolOp .Or (a :: b :: rest) pos) (tOr tA tB') := by
  intro wh pins s σ H Q I h
  refine isTrue_or (thn (ha pins s σ H _ I h) fun c s1 ⟨H1, I1, q1⟩ => ?_)
  cases c with
  | true => exact ⟨H1, I1, q1⟩
  | false => exact hb wh pins s1 σ H1 Q I1 q1
theorem pt_not (ha : PT X a tA) : PT X (.UnaryOp .Not a pos) (tNot tA) := by
  intro pins s σ H Q I h
  exact isTrue_not (ha pins s σ H (fun c H1 => Q (!c) H1) I h)
noncomputable def tAndV (ta tb : TE) : TE := fun σ H Q => ta σ H fun x H1 => ∃ c, x = .bl c ∧ if c = true then tb σ H1 Q else Q (.bl false) H1
noncomputable def tNotV (ta : TE) : TE := fun σ H Q => ta σ H fun x H1 => ∃ c, x = .bl c ∧ Q (.bl (!c)) H1
theorem pe_one {op} {t : TE} (h : PE X a t) : PE X (.BoolOp op [a] pos) t := fun pins s σ H Q I hw => BoolOp_one (h pins s σ H Q I hw)
theorem pe_and (ha : PE X a ta) (hb : PE X (.BoolOp .And (b :: rest) pos) tb) : PE X (.BoolOp .And (a :: b :: rest) pos) (tAndV ta tb) := by
  intro pins s σ H Q I h
  refine BoolOp_and (thn (ha pins s σ H _ I h) fun v s1 ⟨x, H1, I1, r1, q1⟩ => ?_)
  obtain ⟨c, rfl, q1⟩ := q1
  cases r1
  refine wpAny_truthy_bool ?_
  cases c with
  | true => exact hb pins s1 σ H1 Q I1 q1
  | false => exact ⟨.bl false, H1, I1, rfl, q1⟩
theorem pe_not (ha : PE X a ta) : PE X (.UnaryOp .Not a pos) (tNotV ta) := by
  intro pins s σ H Q I h
  refine UnaryOp_ (thn (ha pins s σ H _ I h) fun v s1 ⟨x, H1, I1, r1, q1⟩ => ?_)
  obtain ⟨c, rfl, q1⟩ := q1
  cases r1
  exact not_of (wpAny_truthy_bool ⟨.bl (!c), H1, I1, rfl, q1⟩)
noncomputable def tIf (t : TT) (ta tb : TE) : TE := fun σ H Q => t σ H fun c H1 => if c = true then ta σ H1 Q else tb σ H1 Q
theorem pe_ifExp {c : Expr} (hc : PT X c tA) (ha : PE X a ta) (hb : PE X b tb) : PE X (.IfExp c a b pos) (tIf tA ta tb) := by
  intro pins s σ H Q I h
  refine wpAny_IfExp (thn (hc pins s σ H _ I h) fun d s1 ⟨H1, I1, q1⟩ => ?_)
  cases d with
  | true => exact ha pins s1 σ H1 Q I1 q1
  | false => exact hb pins s1 σ H1 Q I1 q1
end
end L2
namespace L2
open PySem PySem.Spec PyProof.Rows
noncomputable def SqL (K : PySem.W.Frag) (H : Hp) (a : Addr) (xs : List V) : Prop :=
  Rd H a (.lst xs) ∨
    ∃ (o : Obj) (its : Array Value) (n : Nat), K.lookup a = some o ∧ o.cls = .type "list" ∧ o.dict = none ∧ o.data = .seq its n ∧ its.size ≤ sizeLine ∧ Vals xs its.toList
noncomputable def SqT (K : PySem.W.Frag) (H : Hp) (a : Addr) (xs : List V) : Prop :=
  Rd H a (.tup xs) ∨
    ∃ (o : Obj) (its : Array Value) (n : Nat), K.lookup a = some o ∧ o.cls = .type "tuple" ∧ o.data = .seq its n ∧ its.size ≤ sizeLine ∧ Vals xs its.toList
noncomputable def absV : Value → Option V
  | .none => some .non
  | .bool b => some (.bl b)
  | .int i _ => some (.int i)
  | .str x _ => some (.str x)
  | .bytes b _ => some (.byt b)
  | .float b _ => some (.flt b)
  | .ref a => some (.ref a)
  | .type n => some (.ty n)
  | _ => none
theorem RelV.abs {x : V} {u : Value} (r : RelV x u) : absV u = some x := by
  cases x with
  | non => cases r; rfl
  | bl _ => cases r; rfl
  | int _ => obtain ⟨t, rfl⟩ := r; rfl
  | str _ => obtain ⟨t, rfl⟩ := r; rfl
  | byt _ => obtain ⟨t, rfl⟩ := r; rfl
  | flt _ => obtain ⟨t, rfl⟩ := r; rfl
  | ref _ => cases r; rfl
  | ty _ => cases r; rfl
theorem RelV.inj {x y : V} {u : Value} (r : RelV x u) (q : RelV y u) : x = y := Option.some.inj (r.abs.symm.trans q.abs)
theorem Vals.inj : ∀ {xs ys : List V} {us : List Value}, Vals xs us → Vals ys us → xs = ys
  | _, _, _, .nil, .nil => rfl
  | _, _, _, .cons r t, .cons r' t' => by rw [r.inj r', Vals.inj t t']
section
variable {X : Cx} {pins : List (Addr × Obj)} {σ : St} {H : Hp} {s : Shared} {a : Addr} {xs ys : List V}
theorem SqL.of {K : PySem.W.Frag} (h : H a = some (.lst xs)) : SqL K H a xs := .inl (.inl h)
theorem SqT.of {K : PySem.W.Frag} (h : H a = some (.tup xs)) : SqT K H a xs := .inl (.inl h)
theorem Inv.list (I : Inv X pins σ H s) (h : SqL X.K H a xs) : ∃ its : List Value, Vals xs its ∧ PlainL s.heap a its.toArray ∧ xs.length ≤ sizeLine := by
  rcases h with h | ⟨o, its, n, hk, hc, hd, hs, hz, r⟩
  · obtain ⟨z, its, n, r, e⟩ := h.ok I.hok
    exact ⟨its, r, ⟨_, n, e, rfl, rfl, rfl⟩, z⟩
  · refine ⟨its.toList, r, ⟨o, n, I.kIn a o hk, hc, hd, by simpa using hs⟩, ?_⟩
    have e := r.length
    simp only [Array.length_toList] at e
    omega
theorem Inv.tuple (I : Inv X pins σ H s) (h : SqT X.K H a xs) : ∃ its : List Value, Vals xs its ∧ IsTup s.heap a its.toArray ∧ xs.length ≤ sizeLine := by
  rcases h with h | ⟨o, its, n, hk, hc, hs, hz, r⟩
  · obtain ⟨z, its, r, p⟩ := h.ok I.hok
    exact ⟨its, r, p, z⟩
  · refine ⟨its.toList, r, ⟨o, I.kIn a o hk, hc, n, by simpa using hs⟩, ?_⟩
    have e := r.length
    simp only [Array.length_toList] at e
    omega
theorem Inv.list_inj (I : Inv X pins σ H s) (h : SqL X.K H a xs) (h' : SqL X.K H a ys) : xs = ys := by
  obtain ⟨its, r, ⟨o, n, e, _, _, d⟩, _⟩ := I.list h
  obtain ⟨its', r', ⟨o', n', e', _, _, d'⟩, _⟩ := I.list h'
  rw [e] at e'; cases e'
  rw [d] at d'
  injection d' with d1 _
  have : its = its' := by simpa using congrArg Array.toList d1
  subst this
  exact r.inj r'
theorem Inv.tuple_inj (I : Inv X pins σ H s) (h : SqT X.K H a xs) (h' : SqT X.K H a ys) : xs = ys := by
  obtain ⟨its, r, ⟨o, e, _, n, d⟩, _⟩ := I.tuple h
  obtain ⟨its', r', ⟨o', e', _, n', d'⟩, _⟩ := I.tuple h'
  rw [e] at e'; cases e'
  rw [d] at d'
  injection d' with d1 _
  have : its = its' := by simpa using congrArg Array.toList d1
  subst this
  exact r.inj r'
end
noncomputable abbrev Cx.wish (X : Cx) (E : Value → Shared → Prop) : Cx := { X with xe := E }
noncomputable abbrev Cx.nox (X : Cx) : Cx := X.wish fun _ _ => False
theorem Cx.Ok.wish {X : Cx} (ok : X.Ok) (E : Value → Shared → Prop) : (X.wish E).Ok :=
  ⟨ok.mod, ok.kind, ok.glob, ok.blt, ok.above, ok.inj, ok.has, ok.cab, ok.hd, ok.frames, ok.stk, ok.exf, ok.bs, ok.bsz, ok.noex, ok.exfs, ok.funs, ok.frf⟩
theorem Cx.Ok.unwish {X : Cx} {E : Value → Shared → Prop} (ok : (X.wish E).Ok) : X.Ok :=
  ⟨ok.mod, ok.kind, ok.glob, ok.blt, ok.above, ok.inj, ok.has, ok.cab, ok.hd, ok.frames, ok.stk, ok.exf, ok.bs, ok.bsz, ok.noex, ok.exfs, ok.funs, ok.frf⟩
section
variable {X : Cx} {pins : List (Addr × Obj)} {σ : St} {H : Hp} {s : Shared} {E : Value → Shared → Prop}
theorem Inv.wish (I : Inv X pins σ H s) (E : Value → Shared → Prop) : Inv (X.wish E) pins σ H s := ⟨I.ok.wish E, I.os, I.bare, I.base, I.loc, I.cell, I.free, I.freeC, I.pin, I.hok, I.len⟩
theorem Inv.unwish (I : Inv (X.wish E) pins σ H s) : Inv X pins σ H s := ⟨I.ok.unwish, I.os, I.bare, I.base, I.loc, I.cell, I.free, I.freeC, I.pin, I.hok, I.len⟩
theorem SP.unwish {D : Ends} {f : Flow} {s' : Shared} (h : SP (X.wish E) pins D f s') : SP X pins D f s' := by
  cases f with
  | next => obtain ⟨σ', H', I, q⟩ := h; exact ⟨σ', H', I.unwish, q⟩
  | brk => obtain ⟨σ', H', I, q⟩ := h; exact ⟨σ', H', I.unwish, q⟩
  | cont => obtain ⟨σ', H', I, q⟩ := h; exact ⟨σ', H', I.unwish, q⟩
  | ret u => obtain ⟨v, σ', H', I, r, q⟩ := h; exact ⟨v, σ', H', I.unwish, r, q⟩
theorem PSs.nox {st : List Stmt} {t : TS} (h : PSs X.nox st t) : PSs X st t := fun pins s σ H D I hw =>
  wpAny_mono (h pins s σ H D (I.wish _) hw) (fun _ _ q => q.unwish) fun _ _ z => False.elim z
end
section
variable {X : Cx} {st : Stmt} {rest : List Stmt} {t u : TS} {e : Expr} {te : TE} {pos : Pos}
noncomputable def tNext : TS := fun D σ H => D.nx σ H
noncomputable def tSeq (t u : TS) : TS := fun D σ H => t { D with nx := u D } σ H
theorem pss_nil : PSs X [] tNext := fun _ _ σ H _ I h => wpAny_execs_nil ⟨σ, H, I, h⟩
theorem pss_cons (h1 : PS X st t) (h2 : PSs X rest u) : PSs X (st :: rest) (tSeq t u) := by
  intro pins s σ H D I h
  refine wpAny_execs_cons (thn (h1 pins s σ H { D with nx := u D } I h) fun f s1 q => ?_)
  cases f with
  | next =>
    obtain ⟨σ', H', I', q⟩ := q
    exact h2 pins s1 σ' H' D I' q
  | ret v => exact q
  | brk => exact q
  | cont => exact q
theorem pss_one (h1 : PS X st t) : PSs X [st] t := by
  intro pins s σ H D I h
  refine wpAny_execs_cons (thn (h1 pins s σ H D I h) fun f s1 q => ?_)
  cases f with
  | next => exact wpAny_execs_nil q
  | ret v => exact q
  | brk => exact q
  | cont => exact q
theorem Inv.quiet {pins : List (Addr × Obj)} {σ : St} {H : Hp} {s : Shared} (I : Inv X pins σ H s) : interactive X.env = false := by simp [interactive, I.ok.kind]
noncomputable def tDrop (te : TE) : TS := fun D σ H => te σ H fun _ H1 => D.nx σ H1
theorem ps_expr (he : PE X e te) (hs : swapsWith e none pos.line X.env = pure false := by rfl) : PS X (.Expr e pos) (tDrop te) := by
  intro pins s σ H D I h
  exact wpAny_Expr_any (thn (he pins s σ H _ I h) fun v s1 ⟨x, H1, I1, r1, q1⟩ => ⟨σ, H1, I1, q1⟩) I.quiet hs
noncomputable def tRet (te : TE) : TS := fun D σ H => te σ H D.rt
theorem ps_ret (he : PE X e te) : PS X (.Return (some e) pos) (tRet te) := by
  intro pins s σ H D I h
  exact wpAny_Return_some (thn (he pins s σ H _ I h) fun v s1 ⟨x, H1, I1, r1, q1⟩ => ⟨x, σ, H1, I1, r1, q1⟩)
noncomputable def tIfS (c : TT) (t u : TS) : TS := fun D σ H => c σ H fun b H1 => if b = true then t D σ H1 else u D σ H1
theorem ps_if {c : Expr} {a b : List Stmt} {tc : TT} (hc : PT X c tc) (ha : PSs X a t) (hb : PSs X b u) : PS X (.If c a b pos) (tIfS tc t u) := by
  intro pins s σ H D I h
  refine wpAny_If (thn (hc pins s σ H _ I h) fun d s1 ⟨H1, I1, q1⟩ => ?_)
  cases d with
  | true => exact ha pins s1 σ H1 D I1 q1
  | false => exact hb pins s1 σ H1 D I1 q1
noncomputable def tNever : TS := fun _ _ _ => False
theorem pss_never {sts : List Stmt} : PSs X sts tNever := fun _ _ _ _ _ _ h => h.elim
end
noncomputable abbrev TG := V → St → Hp → (St → Hp → Prop) → Prop
noncomputable abbrev TGs := List V → St → Hp → (St → Hp → Prop) → Prop
noncomputable def PG (X : Cx) (target : Expr) (t : TG) : Prop :=
  ∀ (pins : List (Addr × Obj)) (s : Shared) (σ : St) (H : Hp) (v : V) (u : Value) (Q : St → Hp → Prop), Inv X pins σ H s → RelV v u → t v σ H Q →
    wpAny (model X.prog X.w) X.A (assign target X.env u) (fun _ s' => ∃ σ' H', Inv X pins σ' H' s' ∧ Q σ' H') X.xe s
noncomputable def PGs (X : Cx) (ts : List Expr) (t : TGs) : Prop :=
  ∀ (pins : List (Addr × Obj)) (s : Shared) (σ : St) (H : Hp) (vs : List V) (us : List Value) (Q : St → Hp → Prop), Inv X pins σ H s → Vals vs us → t vs σ H Q →
    wpAny (model X.prog X.w) X.A (assignInOrder ((assignEach ts X.env).map (·.2)) us) (fun _ s' => ∃ σ' H', Inv X pins σ' H' s' ∧ Q σ' H') X.xe s
noncomputable abbrev TSet := V → V → V → Hp → (Hp → Prop) → Prop
noncomputable def PSet (X : Cx) (t : TSet) : Prop :=
  ∀ (pins : List (Addr × Obj)) (s : Shared) (σ : St) (H : Hp) (o i v : V) (ov iv u : Value) (Q : Hp → Prop), Inv X pins σ H s → RelV o ov → RelV i iv → RelV v u → t o i v H Q →
    wpAny (model X.prog X.w) X.A (setItem ov iv u) (fun _ s' => ∃ H', Inv X pins σ H' s' ∧ Q H') X.xe s
section
variable {X : Cx} {pos : Pos}
noncomputable def gName (i : Nat) : TG := fun v σ H Q => Q (σ.set i (some v)) H
theorem pg_name {i : Nat} {x : Str} (hN : X.N.Nodup) (hi : X.N[i]? = some x) (hx : Loc X.env.scope x) (hf : X.fn x = true ∨ X.env.scope.names.lookup x = some .local := by first | exact .inl rfl | exact .inr rfl | assumption) : PG X (.Name x pos) (gName i) := by
  intro pins s σ H v u Q I r h
  exact wpAny_assign_Name (store_ok I hN hi hx r (fun s' I' => ⟨_, H, I', h⟩) hf)
noncomputable def gNil : TGs := fun vs σ H Q => vs = [] ∧ Q σ H
noncomputable def gCons (t : TG) (u : TGs) : TGs := fun vs σ H Q => ∃ v r, vs = v :: r ∧ t v σ H fun σ' H' => u r σ' H' Q
theorem pgs_nil : PGs X [] gNil := by
  intro pins s σ H vs us Q I r h
  obtain ⟨e, h⟩ := h
  subst e
  cases r
  exact assignInOrder_nil ⟨σ, H, I, h⟩
theorem pgs_cons {e : Expr} {es : List Expr} {t : TG} {u : TGs} (h1 : PG X e t) (h2 : PGs X es u)
    (hs : (assignEach (e :: es) X.env).map (·.2) = assign e X.env :: (assignEach es X.env).map (·.2) := by rfl) : PGs X (e :: es) (gCons t u) := by
  intro pins s σ H vs us Q I r h
  obtain ⟨v, vr, e1, h⟩ := h
  subst e1
  cases r with
  | cons r rr =>
    rw [hs]
    refine assignInOrder_cons (thn (h1 pins s σ H _ _ _ I r h) fun _ s1 ⟨σ1, H1, I1, q1⟩ => ?_)
    exact h2 pins s1 σ1 H1 _ _ Q I1 rr q1
noncomputable def gTup (K : PySem.W.Frag) (n : Nat) (t : TGs) : TG := fun v σ H Q => ∃ a xs, v = .ref a ∧ SqT K H a xs ∧ xs.length = n ∧ t xs σ H Q
theorem pg_tup {es : List Expr} {k : Nat} {t : TGs} {n : Nat} (hc : X.calm = true) (h : PGs X es t)
    (hn : (assignEach es X.env).length = n := by rfl) (hst : (assignEach es X.env).findIdx? (·.1) = none := by rfl) : PG X (.Tuple es k pos) (gTup X.K n t) := by
  intro pins s σ H v u Q I r hw
  obtain ⟨a, xs, e1, hq, hl, hw⟩ := hw
  subst e1
  cases r
  obtain ⟨its, rv, ht, hz⟩ := I.tuple hq
  refine assign_Tuple_tuple (I.ok.hd hc) ht (by simp [hn, ← hl, rv.length]) hst fun h' hx => ?_
  have I1 : Inv X pins σ H { s with heap := h' } := I.kept (t' := s.toks) fun b o e => hx b o (Nat.ne_of_lt (Heap.lt_size e)) e
  exact h pins _ σ H xs _ Q I1 (by simpa using rv) hw
noncomputable def gSub (to ti : TE) (t : TSet) : TG := fun v σ H Q => to σ H fun o H1 => ti σ H1 fun i H2 => t o i v H2 fun H3 => Q σ H3
theorem pg_sub {o i : Expr} {to ti : TE} {t : TSet} (ho : PE X o to) (hi : PE X i ti) (hs : PSet X t)
    (ha : ∀ v, assign (.Subscript o i pos) X.env v = (do
      let ov ← holding [v] (eval o X.env)
      let iv ← holding [v, ov] (eval i X.env)
      standAt pos
      holding [v, ov, iv] (setItem ov iv v)
      release [v, ov, iv] []) := by intro _; rfl) : PG X (.Subscript o i pos) (gSub to ti t) := by
  intro pins s σ H v u Q I r h
  rw [ha]
  refine wpAny_bind (wpAny_holding (thn (ho pins s σ H _ I h) fun ov s1 ⟨x, H1, I1, r1, q1⟩ => ?_))
  refine wpAny_bind (wpAny_holding (thn (hi pins s1 σ H1 _ I1 q1) fun iv s2 ⟨y, H2, I2, r2, q2⟩ => ?_))
  refine wpAny_bind (wpAny_standAt (wpAny_bind (wpAny_holding (thn (hs pins s2 σ H2 x y v ov iv u _ I2 r1 r2 r q2) fun _ s3 ⟨H3, I3, q3⟩ => ?_))))
  exact wpAny_release ⟨σ, H3, I3, q3⟩
noncomputable def tAsg (te : TE) (g : TG) : TS := fun D σ H => te σ H fun x H1 => g x σ H1 D.nx
theorem ps_asg {tg e : Expr} {te : TE} {g : TG} (he : PE X e te) (hg : PG X tg g) (hs : swapsWithSole [tg] e pos.line X.env = pure false := by rfl) (hw : swappedStores [tg] e X.env = pure none := by rfl)
    (h1 : (assignEach [tg] X.env).map (·.2) = [assign tg X.env] := by rfl) : PS X (.Assign [tg] e pos) (tAsg te g) := by
  intro pins s σ H D I h
  refine wpAny_Assign_stores (thn (he pins s σ H _ I h) fun v s1 ⟨x, H1, I1, r1, q1⟩ => ?_) hs hw
  rw [h1]
  exact thn (hg pins s1 σ H1 x v _ I1 r1 q1) fun _ s2 q => q
theorem ps_set {i : Nat} {x : Str} {e : Expr} {te : TE} {pos' : Pos} (hN : X.N.Nodup) (hi : X.N[i]? = some x) (hx : Loc X.env.scope x) (he : PE X e te) (hs : swapsWith e (some (.Name x pos')) pos.line X.env = pure false := by rfl) (hf : X.fn x = true ∨ X.env.scope.names.lookup x = some .local := by first | exact .inl rfl | exact .inr rfl | assumption) :
    PS X (.Assign [.Name x pos'] e pos) (tAsg te (gName i)) := by
  intro pins s σ H D I h
  refine wpAny_Assign_Name (thn (he pins s σ H _ I h) fun v s1 ⟨y, H1, I1, r1, q1⟩ => ?_) hs
  exact store_ok I1 hN hi hx r1 (fun s2 I2 => ⟨_, H1, I2, q1⟩) hf
noncomputable def tPar (i j : Nat) (ta : TA) : TS := fun D σ H => ta σ H fun vs H1 => ∃ v w, vs = [v, w] ∧ D.nx ((σ.set i (some v)).set j (some w)) H1
theorem ps_par {i j : Nat} {x y : Str} {a b : Expr} {ta : TA} {px py pt : Pos} {kt k2 pt2} (hc : X.calm = true) (hN : X.N.Nodup) (hi : X.N[i]? = some x) (hj : X.N[j]? = some y) (hij : i ≠ j)
    (hx : X.env.scope.names.lookup x = some .local) (hy : X.env.scope.names.lookup y = some .local) (ha : PA X [a, b] ta)
    (hw : swappedStores [.Tuple [.Name x px, .Name y py] kt pt] (.Tuple [a, b] k2 pt2) X.env = pure (some [x, y]))
    (hs : swapsWithSole [.Tuple [.Name x px, .Name y py] kt pt] (.Tuple [a, b] k2 pt2) pos.line X.env = pure false := by rfl) :
    PS X (.Assign [.Tuple [.Name x px, .Name y py] kt pt] (.Tuple [a, b] k2 pt2) pos) (tPar i j ta) := by
  intro pins s σ H D I h
  rw [exec_Assign_arm]
  refine wpAny_bind (wpAny_standAt ?_)
  rw [hs]
  refine wpAny_bind (wpAny_pure ?_)
  rw [if_neg (by decide)]
  refine wpAny_bind (Tuple_ (thn (ha _ pins s σ H _ I h) fun us s1 ⟨vs, H1, I1, r1, q1⟩ => ?_))
  obtain ⟨v, w, e1, q1⟩ := q1
  subst e1
  obtain ⟨u1, u2, rfl, rv, rw'⟩ : ∃ u1 u2, us = [u1, u2] ∧ RelV v u1 ∧ RelV w u2 := by
    cases r1 with
    | cons p q =>
      cases q with
      | cons p' q' =>
        cases q'
        exact ⟨_, _, rfl, p, p'⟩
  refine wpAny_newObj_type ?_ (by show 2 ≤ sizeLine; decide)
  have I2 : Inv X pins σ H1 { s1 with heap := s1.heap.push { cls := .type "tuple", data := .seq [u1, u2].toArray } } := I1.kept (t' := s1.toks) fun b o e => Heap.get?_push_of_some _ e
  rw [hw]
  refine wpAny_bind (wpAny_pure ?_)
  show wpAny (model X.prog X.w) X.A (do rule "assign.swapped-stores"; let items ← unpackItems (.ref s1.heap.objs.size) 2 none; assignInOrder [fun v => bindName X.env y v, fun v => bindName X.env x v] items.reverse; pure Flow.next) _ _ _
  refine wpAny_bind (wpAny_rule (wpAny_bind (unpackItems_tuple (items := #[u1, u2]) (I.ok.hd hc) (IsTup.new s1.heap _) fun h' hx' => ?_)))
  have I3 := I2.kept (h' := h') (t' := s1.toks) fun b o e => hx' b o (Nat.ne_of_lt (Heap.lt_size e)) e
  show wpAny _ _ (assignInOrder [fun v => bindName X.env y v, fun v => bindName X.env x v] [u2, u1] >>= fun _ => pure Flow.next) _ _ _
  refine wpAny_bind (assignInOrder_cons (wpAny_bindName (store_ok I3 hN hj (.inl hy) rw' (fun s2 I4 => ?_) (.inr hy))))
  refine assignInOrder_cons (wpAny_bindName (store_ok I4 hN hi (.inl hx) rv (fun s3 I5 => assignInOrder_nil (wpAny_pure ?_)) (.inr hx)))
  rw [List.set_comm _ _ (Ne.symm hij)] at I5
  exact ⟨_, H1, I5, q1⟩
end
section
variable {X : Cx} {pos : Pos}
noncomputable def tWhile (c : TT) (tb : TS) : TS := fun D σ H => ∃ W : Nat → St → Hp → Prop, (∃ m, W m σ H) ∧ ∀ m σ H, W m σ H →
  c σ H fun b H1 => if b = true then ∃ N : St → Hp → Prop, (∀ σ' H', N σ' H' → ∃ m', m' < m ∧ W m' σ' H') ∧ tb { D with nx := N, ct := N, bk := D.nx } σ H1 else D.nx σ H1
theorem ps_while {c : Expr} {body : List Stmt} {tc : TT} {tb : TS} (hp : PassesOwn (model X.prog X.w) X.A X.env X.xe) (hc : PT X c tc) (hb : PSs X body tb) : PS X (.While c body [] pos) (tWhile tc tb) := by
  intro pins s σ H D I h
  obtain ⟨W, ⟨m0, w0⟩, turn⟩ := h
  refine wpAny_While (codeAny_whileLoop (fun n s' => ∃ σ' H', Inv X pins σ' H' s' ∧ W n σ' H') ?_ m0 ⟨σ, H, I, w0⟩)
  rintro n s1 ⟨σ1, H1, I1, w1⟩
  refine wpAny_passesOwn hp (thn (hc pins s1 σ1 H1 _ I1 (turn n σ1 H1 w1)) fun b s2 ⟨H2, I2, q2⟩ => ?_)
  cases b with
  | true =>
    obtain ⟨N, hN, q2⟩ := q2
    rw [if_pos rfl]
    refine wpAny_passesOwn hp (thn (hb pins s2 σ1 H2 _ I2 q2) fun f s3 q3 => ?_)
    cases f with
    | next =>
      obtain ⟨σ3, H3, I3, n3⟩ := q3
      obtain ⟨m', hm, w3⟩ := hN σ3 H3 n3
      exact ⟨m', hm, σ3, H3, I3, w3⟩
    | cont =>
      obtain ⟨σ3, H3, I3, n3⟩ := q3
      obtain ⟨m', hm, w3⟩ := hN σ3 H3 n3
      exact ⟨m', hm, σ3, H3, I3, w3⟩
    | brk => exact q3
    | ret v => exact q3
  | false =>
    rw [if_neg Bool.false_ne_true]
    exact wpAny_execs_nil ⟨σ1, H2, I2, q2⟩
end
structure It where
  go : Nat → Hp → Prop
  yld : Nat → Hp → V → Hp → Prop
  stop : Nat → Hp → Prop
noncomputable def FpOk (X : Cx) (pins : List (Addr × Obj)) (H : Hp) (b : Addr) : Prop :=
  H b = none ∧ b ≠ X.env.locals ∧ b ∉ X.fs ∧ (b ∈ X.ex ∨ X.s₀.heap.objs.size ≤ b) ∧ (∀ x c, X.env.cells.lookup x = some c → c ≠ b) ∧ ∀ p ∈ X.pn ++ pins, p.1 ≠ b
theorem Inv.fpOk {X : Cx} {pins : List (Addr × Obj)} {σ : St} {H H' : Hp} {s : Shared} {b : Addr} (I : Inv X pins σ H s) (hb : s.heap.objs.size ≤ b) (hn : H' b = none) : FpOk X pins H' b := by
  refine ⟨hn, Nat.ne_of_gt (Nat.lt_of_lt_of_le I.lt hb), I.nofs hb, .inr (Nat.le_trans I.sz hb), fun x c e z => ?_, fun p hp z => ?_⟩
  · obtain ⟨v, q⟩ := I.cell x c e
    exact absurd (Nat.lt_of_lt_of_le q.lt (by rw [z]; exact hb)) (Nat.lt_irrefl _)
  · exact absurd (Nat.lt_of_lt_of_le (Heap.lt_size (I.pin p hp).1) (by rw [z]; exact hb)) (Nat.lt_irrefl _)
structure Turn (P : Program) (w : World) (K : PySem.W.Frag) (tg : Expr) (J : It) (fp : List Addr) (it : Addr) (tn : Nat → Heap → Prop) : Prop where
  mem : it ∈ fp
  obj : ∀ i h, tn i h → ∀ b ∈ fp, ∃ o, h.get? b = some o ∧ ∀ v, o.data ≠ .cell v
  keep : ∀ i h h', tn i h → (∀ b ∈ fp, ∀ o, h.get? b = some o → h'.get? b = some o) → tn i h'
  item : ∀ (X : Cx), X.prog = P → X.w = w → X.K = K → X.calm = true → ∀ (i : Nat) (pins : List (Addr × Obj)) (s : Shared) (σ : St) (H : Hp) (E : Value → Shared → Prop), Inv X pins σ H s → (∀ b ∈ fp, FpOk X pins H b) → tn i s.heap → J.go i H →
    wpAny (model P w) X.A (pyNext (.ref it)) (fun r s1 => ∃ u, r = some u ∧
      wpAny (model P w) X.A (letOwnedTupleGo tg (.ref it) u) (fun _ s2 => ∃ x H', Inv X pins σ H' s2 ∧ RelV x u ∧ J.yld i H x H' ∧ tn (i + 1) s2.heap ∧ ∀ b ∈ fp, H' b = none) E s1) E s
  done : ∀ (X : Cx), X.prog = P → X.w = w → X.K = K → X.calm = true → ∀ (i : Nat) (pins : List (Addr × Obj)) (s : Shared) (σ : St) (H : Hp) (E : Value → Shared → Prop), Inv X pins σ H s → (∀ b ∈ fp, FpOk X pins H b) → tn i s.heap → J.stop i H →
    wpAny (model P w) X.A (pyNext (.ref it)) (fun r s1 => r = none ∧ Inv X pins σ H s1) E s
  self : ∀ (A : Around) (i : Nat) (s : Shared) (Q : Value → Shared → Prop) (E : Value → Shared → Prop), tn i s.heap → Q (.ref it) s → wpAny (model P w) A (pyIter (.ref it)) Q E s
noncomputable abbrev TI := St → Hp → (It → Hp → Prop) → Prop
noncomputable def PIE (X : Cx) (pins : List (Addr × Obj)) (σ : St) (tg : Expr) (R : It → Hp → Prop) (itv : Value) (s2 : Shared) : Prop :=
  ∃ (it : Addr) (fp : List Addr) (tn : Nat → Heap → Prop) (J : It) (H' : Hp), itv = .ref it ∧ Inv X pins σ H' s2 ∧ Turn X.prog X.w X.K tg J fp it tn ∧ tn 0 s2.heap ∧ (∀ b ∈ fp, FpOk X pins H' b) ∧ R J H'
noncomputable def PI (X : Cx) (tg iter : Expr) (wi : TI) : Prop :=
  ∀ (pins : List (Addr × Obj)) (s : Shared) (σ : St) (H : Hp) (R : It → Hp → Prop), Inv X pins σ H s → wi σ H R →
    wpAny (model X.prog X.w) X.A (eval iter X.env) (fun v s1 => wpAny (model X.prog X.w) X.A (pyIter v) (PIE X pins σ tg R) X.xe s1) X.xe s
theorem go_of {M : Model} {A : Around} {E : Value → Shared → Prop} {s : Shared} {tg : Expr} {it : Addr} {u : Value} {o : Obj} {n : String} {vs : Array Value} {Q : Unit → Shared → Prop} (ho : s.heap.get? it = some o) (hc : o.cls = .type n) (hd : o.data = .fields vs)
    (hn : ["enumerate", "zip", "dict_itemiterator", "dict_reverseitemiterator", "odict_iterator", "itertools.zip_longest", "itertools.pairwise"].contains n = false) (hQ : Q () s) : wpAny M A (letOwnedTupleGo tg (.ref it) u) Q E s := by
  unfold letOwnedTupleGo
  cases tg <;> first
    | exact wpAny_pure hQ
    | (cases u <;> first
        | exact wpAny_pure hQ
        | (refine wpAny_bind (wpAny_load ho ?_)
           rw [hc, hd]
           show wpAny M A (if (["enumerate", "zip", "dict_itemiterator", "dict_reverseitemiterator", "odict_iterator", "itertools.zip_longest", "itertools.pairwise"].contains n && vs[0]? == some (rawInt _)) = true then _ else _) Q E s
           rw [if_neg (by intro h; rw [hn, Bool.false_and] at h; cases h)]
           exact wpAny_pure hQ))
noncomputable def Itl (K : PySem.W.Frag) (a : Addr) : It :=
  ⟨fun i H => ∃ xs x, SqL K H a xs ∧ xs[i]? = some x, fun i H x H' => H' = H ∧ ∀ xs, SqL K H a xs → xs[i]? = some x, fun i H => ∃ xs, SqL K H a xs ∧ xs.length ≤ i⟩
noncomputable def Itt (K : PySem.W.Frag) (a : Addr) : It :=
  ⟨fun i H => ∃ xs x, SqT K H a xs ∧ xs[i]? = some x, fun i H x H' => H' = H ∧ ∀ xs, SqT K H a xs → xs[i]? = some x, fun i H => ∃ xs, SqT K H a xs ∧ xs.length ≤ i⟩
noncomputable def Itr (lo : Int) (n : Nat) : It := ⟨fun i _ => i < n, fun i H x H' => H' = H ∧ x = .int (lo + i), fun i _ => n ≤ i⟩
theorem turn_list {P : Program} {w : World} {K : PySem.W.Frag} {tg : Expr} (a it : Addr) : Turn P w K tg (Itl K a) [it] it (fun i h => h.IsListIter it a i) where
  mem := by simp
  obj := fun i h st b hb => by
    have e : b = it := by simpa using hb
    subst e
    obtain ⟨o, e, c, d⟩ := st
    exact ⟨o, e, fun v z => by rw [d] at z; cases z⟩
  keep := fun i h h' st k => st.at fun o e => k it (by simp) o e
  item := by
    intro X hP hw hK hc i pins s σ H E I hf st hg
    subst hP hw hK
    obtain ⟨xs, x, hq, hx⟩ := hg
    obtain ⟨its, rv, p, hz⟩ := I.list hq
    obtain ⟨u, hu, ru⟩ := rv.get hx
    obtain ⟨f0, f1, f2, f3, f4, f5⟩ := hf it (by simp)
    refine wpAny_pyNext_list_item st p.isList (x := u) (by simpa using hu) fun h' st' sb => ?_
    have I1 : Inv X pins σ H { s with heap := h' } := I.turned (t' := s.toks) (fun b o hb e => (sb.2 b hb).trans e) f0 f1 f3 f4 f5
    obtain ⟨o, e, c, d⟩ := id st'
    exact ⟨u, rfl, go_of (s := { s with heap := h' }) e c d (by decide) ⟨x, H, I1, ru, ⟨rfl, fun ys hy => by rw [I.list_inj hy hq]; exact hx⟩, st', fun b hb => (hf b hb).1⟩⟩
  done := by
    intro X hP hw hK hc i pins s σ H E I hf st hg
    subst hP hw hK
    obtain ⟨xs, hq, hx⟩ := hg
    obtain ⟨its, rv, p, hz⟩ := I.list hq
    obtain ⟨f0, f1, f2, f3, f4, f5⟩ := hf it (by simp)
    have hl := rv.length
    exact wpAny_pyNext_list_end (I.ok.hd hc) st p.isList (by simp; omega) fun h' eb => ⟨rfl, I.turned (t' := s.toks) (fun b o hb e => eb b o hb e) f0 f1 f3 f4 f5⟩
  self := fun _ _ _ _ _ st h => wpAny_pyIter_listiter st h
theorem turn_tuple {P : Program} {w : World} {K : PySem.W.Frag} {tg : Expr} (a it : Addr) : Turn P w K tg (Itt K a) [it] it (fun i h => h.IsTupleIter it a i) where
  mem := by simp
  obj := fun i h st b hb => by
    have e : b = it := by simpa using hb
    subst e
    obtain ⟨o, e, c, d⟩ := st
    exact ⟨o, e, fun v z => by rw [d] at z; cases z⟩
  keep := fun i h h' st k => st.at fun o e => k it (by simp) o e
  item := by
    intro X hP hw hK hc i pins s σ H E I hf st hg
    subst hP hw hK
    obtain ⟨xs, x, hq, hx⟩ := hg
    obtain ⟨its, rv, p, hz⟩ := I.tuple hq
    obtain ⟨u, hu, ru⟩ := rv.get hx
    obtain ⟨f0, f1, f2, f3, f4, f5⟩ := hf it (by simp)
    refine wpAny_pyNext_tuple_item st (show s.heap.IsTuple a its.toArray from p) (x := u) (by simpa using hu) fun h' st' sb => ?_
    have I1 : Inv X pins σ H { s with heap := h' } := I.turned (t' := s.toks) (fun b o hb e => (sb.2 b hb).trans e) f0 f1 f3 f4 f5
    obtain ⟨o, e, c, d⟩ := id st'
    exact ⟨u, rfl, go_of (s := { s with heap := h' }) e c d (by decide) ⟨x, H, I1, ru, ⟨rfl, fun ys hy => by rw [I.tuple_inj hy hq]; exact hx⟩, st', fun b hb => (hf b hb).1⟩⟩
  done := by
    intro X hP hw hK hc i pins s σ H E I hf st hg
    subst hP hw hK
    obtain ⟨xs, hq, hx⟩ := hg
    obtain ⟨its, rv, p, hz⟩ := I.tuple hq
    obtain ⟨f0, f1, f2, f3, f4, f5⟩ := hf it (by simp)
    have hl := rv.length
    exact wpAny_pyNext_tuple_end (I.ok.hd hc) st (show s.heap.IsTuple a its.toArray from p) (by simp; omega) fun h' eb => ⟨rfl, I.turned (t' := s.toks) (fun b o hb e => eb b o hb e) f0 f1 f3 f4 f5⟩
  self := fun _ _ _ _ _ st h => wpAny_pyIter_tupleiter st h
theorem turn_range {P : Program} {w : World} {K : PySem.W.Frag} {tg : Expr} (it : Addr) (lo : Int) (n : Nat) : Turn P w K tg (Itr lo n) [it] it (fun i h => IsRangeIter h it (lo + (i : Nat) * 1) ((n : Int) - (i : Nat)) 1) where
  mem := by simp
  obj := fun i h st b hb => by
    have e : b = it := by simpa using hb
    subst e
    exact ⟨_, st, fun v z => by
      have z' : Data.fields _ = Data.cell v := z
      cases z'⟩
  keep := fun i h h' st k => k it (by simp) _ st
  item := by
    intro X hP hw hK hc i pins s σ H E I hf st hg
    subst hP hw hK
    obtain ⟨f0, f1, f2, f3, f4, f5⟩ := hf it (by simp)
    have W := Walks.range (prog := X.prog) (w := X.w) (I.ok.hd hc) it lo 1 n
    refine W.item i s _ _ hg st fun v h' tk hv st' kk => ?_
    obtain ⟨t, rfl⟩ := hv
    have I1 : Inv X pins σ H { s with heap := h', toks := tk } := I.turned (fun b o hb e => kk b o (by simpa using hb) e) f0 f1 f3 f4 f5
    refine ⟨_, rfl, go_of (s := { s with heap := h', toks := tk }) (n := "range_iterator") st' rfl rfl (by decide) ⟨.int (lo + i), H, I1, ⟨t, ?_⟩, ⟨rfl, rfl⟩, st', fun b hb => (hf b hb).1⟩⟩
    rw [Int.mul_one]
  done := by
    intro X hP hw hK hc i pins s σ H E I hf st hg
    subst hP hw hK
    obtain ⟨f0, f1, f2, f3, f4, f5⟩ := hf it (by simp)
    exact wpAny_pyNext_range_end (I.ok.hd hc) st (by have : n ≤ i := hg; omega) fun h' eb => ⟨rfl, I.turned (t' := s.toks) (fun b o hb e => eb b o hb e) f0 f1 f3 f4 f5⟩
  self := fun _ _ _ _ _ st h => wpAny_pyIter_rangeiter st h
end L2
namespace L2
open PySem PySem.Spec PyProof.Rows
section
variable {X : Cx} {tg : Expr}
noncomputable def iList (K : PySem.W.Frag) (tl : TE) : TI := fun σ H R => tl σ H fun x H1 => ∃ a, x = .ref a ∧ (∃ xs, SqL K H1 a xs) ∧ R (Itl K a) H1
noncomputable def iTup (K : PySem.W.Frag) (tl : TE) : TI := fun σ H R => tl σ H fun x H1 => ∃ a, x = .ref a ∧ (∃ xs, SqT K H1 a xs) ∧ R (Itt K a) H1
theorem pi_list {l : Expr} {tl : TE} (hl : PE X l tl) : PI X tg l (iList X.K tl) := by
  intro pins s σ H R I h
  refine thn (hl pins s σ H _ I h) fun v s1 ⟨x, H1, I1, r1, q1⟩ => ?_
  obtain ⟨a, e, ⟨xs, hq⟩, q⟩ := q1
  subst e
  cases r1
  obtain ⟨its, rv, p, hz⟩ := I1.list hq
  refine wpAny_pyIter_list p.isList ?_
  refine ⟨s1.heap.objs.size, [s1.heap.objs.size], _, _, H1, rfl, I1.kept (t' := s1.toks) fun b o e => Heap.get?_push_of_some _ e, turn_list a _, ⟨_, Heap.get?_push_size _ rfl, rfl, rfl⟩, fun b hb => ?_, q⟩
  have e : b = s1.heap.objs.size := by simpa using hb
  subst e
  exact I1.fpOk (Nat.le_refl _) (I1.hok.fresh (Nat.le_refl _))
theorem pi_tup {l : Expr} {tl : TE} (hl : PE X l tl) : PI X tg l (iTup X.K tl) := by
  intro pins s σ H R I h
  refine thn (hl pins s σ H _ I h) fun v s1 ⟨x, H1, I1, r1, q1⟩ => ?_
  obtain ⟨a, e, ⟨xs, hq⟩, q⟩ := q1
  subst e
  cases r1
  obtain ⟨its, rv, p, hz⟩ := I1.tuple hq
  refine wpAny_pyIter_tuple (show s1.heap.IsTuple a its.toArray from p) ?_
  refine ⟨s1.heap.objs.size, [s1.heap.objs.size], _, _, H1, rfl, I1.kept (t' := s1.toks) fun b o e => Heap.get?_push_of_some _ e, turn_tuple a _, ⟨_, Heap.get?_push_size _ rfl, rfl, rfl⟩, fun b hb => ?_, q⟩
  have e : b = s1.heap.objs.size := by simpa using hb
  subst e
  exact I1.fpOk (Nat.le_refl _) (I1.hok.fresh (Nat.le_refl _))
theorem range_it {pins : List (Addr × Obj)} {σ : St} {H : Hp} {s : Shared} {R : It → Hp → Prop} {E : Value → Shared → Prop} {lo hi : Int} {t u v : Tok} {tk : Nat} (I : Inv X pins σ H s) (h1 : -(2 ^ 62) ≤ lo) (h2 : lo < 2 ^ 62) (h3 : -(2 ^ 62) ≤ hi) (h4 : hi < 2 ^ 62)
    (q : R (Itr lo (hi - lo).toNat) H) : wpAny (model X.prog X.w) X.A (pyIter (.ref s.heap.objs.size)) (PIE X pins σ tg R) E { s with heap := s.heap.push { cls := .type "range", data := .fields #[.int lo t, .int hi u, .int 1 v] }, toks := tk } := by
  refine wpAny_pyIter_range (IsRange.new ..) (small_one h1 h2 h3 h4) ?_
  have I1 : Inv X pins σ H { s with heap := s.heap.push { cls := .type "range", data := .fields #[.int lo t, .int hi u, .int 1 v] }, toks := tk } := I.kept fun b o e => Heap.get?_push_of_some _ e
  refine ⟨(s.heap.push { cls := .type "range", data := .fields #[.int lo t, .int hi u, .int 1 v] }).objs.size, [(s.heap.push { cls := .type "range", data := .fields #[.int lo t, .int hi u, .int 1 v] }).objs.size], _, _, H, rfl,
    I1.kept (t' := tk) fun b o e => Heap.get?_push_of_some _ e, turn_range _ lo (hi - lo).toNat, ?_, fun b hb => ?_, q⟩
  · have e1 : lo + ((0 : Nat) : Int) * 1 = lo := by simp
    have e2 : (((hi - lo).toNat : Nat) : Int) - ((0 : Nat) : Int) = Builtin.Range.rangeSize lo hi 1 := by rw [rangeSize_one]; split <;> omega
    show IsRangeIter _ _ (lo + ((0 : Nat) : Int) * 1) ((((hi - lo).toNat : Nat) : Int) - ((0 : Nat) : Int)) 1
    rw [e1, e2]
    exact Heap.get?_push_size _ rfl
  · have e : b = (s.heap.push { cls := .type "range", data := .fields #[.int lo t, .int hi u, .int 1 v] }).objs.size := by simpa using hb
    subst e
    exact I1.fpOk (Nat.le_refl _) (I1.hok.fresh (Nat.le_refl _))
noncomputable def iRng1 (ta : TA) : TI := fun σ H R => ta σ H fun vs H1 => ∃ j : Int, vs = [.int j] ∧ -(2 ^ 62) ≤ j ∧ j < 2 ^ 62 ∧ R (Itr 0 j.toNat) H1
theorem pi_range1 {a : Expr} {ta : TA} {p pos : Pos} (hg : Gl X "range") (hm : X.mg "range" = none) (ha : PA X [a] ta) (hs : starEach [a] X.env = [(false, eval a X.env)] := by rfl) : PI X tg (.Call (.Name "range" p) [a] [] pos) (iRng1 ta) := by
  intro pins s σ H R I h
  refine Call_ (ld_blt I hg hm boot_range (PyProof.Rows.callWith_type1 (thn (ha pos pins s σ H _ I h) fun us s1 ⟨vs, H1, I1, r1, q1⟩ => ?_) hs rfl))
  obtain ⟨j, e, q1, q2, q⟩ := q1
  subst e
  cases r1 with
  | cons r rr =>
    cases rr
    obtain ⟨t, rfl⟩ := r
    exact call_range_1 (range_it I1 (by omega) (by omega) q1 q2 (by simpa using q))
noncomputable def tFor (wi : TI) (g : TG) (tb : TS) : TS := fun D σ H => wi σ H fun J H1 => ∃ W : Nat → Nat → St → Hp → Prop, (∃ m, W 0 m σ H1) ∧ ∀ i m σ H, W i m σ H →
  (J.stop i H ∧ D.nx σ H) ∨ (J.go i H ∧ ∃ N : St → Hp → Prop, (∀ σ' H', N σ' H' → ∃ m', m' < m ∧ W (i + 1) m' σ' H') ∧ ∀ x H', J.yld i H x H' → g x σ H' fun σ2 H2 => tb { D with nx := N, ct := N, bk := D.nx } σ2 H2)
noncomputable def pinsAt (fp : List Addr) (h : Heap) : List (Addr × Obj) := fp.filterMap fun b => (h.get? b).map fun o => (b, o)
theorem mem_pinsAt {fp : List Addr} {h : Heap} {b : Addr} {o : Obj} (hb : b ∈ fp) (e : h.get? b = some o) : (b, o) ∈ pinsAt fp h := List.mem_filterMap.mpr ⟨b, hb, by rw [e]; rfl⟩
theorem of_pinsAt {fp : List Addr} {h : Heap} {p : Addr × Obj} (hp : p ∈ pinsAt fp h) : p.1 ∈ fp ∧ h.get? p.1 = some p.2 := by
  obtain ⟨b, hb, e⟩ := List.mem_filterMap.mp hp
  cases q : h.get? b with
  | none => rw [q] at e; cases e
  | some o =>
    rw [q] at e
    have e' : (b, o) = p := Option.some.inj e
    subst e'
    exact ⟨hb, q⟩
theorem Inv.pinned {pins : List (Addr × Obj)} {σ : St} {H : Hp} {s : Shared} {fp : List Addr} (I : Inv X pins σ H s) (hf : ∀ b ∈ fp, FpOk X pins H b) (ho : ∀ b ∈ fp, ∃ o, s.heap.get? b = some o ∧ ∀ v, o.data ≠ .cell v) : Inv X (pins ++ pinsAt fp s.heap) σ H s :=
  I.pins_of fun p hp => (List.mem_append.mp hp).elim (fun z => I.pin p (List.mem_append_right _ z)) fun z => by
    obtain ⟨hb, e⟩ := of_pinsAt z
    obtain ⟨f0, f1, f2, _⟩ := hf p.1 hb
    obtain ⟨o, e', d⟩ := ho p.1 hb
    rw [e] at e'; cases e'
    exact ⟨e, f0, f1, f2, d⟩
theorem Inv.unpinned {pins pl : List (Addr × Obj)} {σ : St} {H : Hp} {s : Shared} (I : Inv X (pins ++ pl) σ H s) : Inv X pins σ H s := I.pins_of fun p hp => I.pin p (List.mem_append_right _ (List.mem_append_left _ hp))
theorem ps_for {iter : Expr} {body : List Stmt} {wi : TI} {g : TG} {tb : TS} {pos : Pos} (hp : PassesOwn (model X.prog X.w) X.A X.env X.xe) (hc : X.calm = true) (hi : PI X tg iter wi) (hg : PG X tg g) (hb : PSs X body tb)
    (hs : ∀ x, foldedSetIterable iter X.env x = pure x := by intro _; rfl) : PS X (.For tg iter body [] pos) (tFor wi g tb) := by
  intro pins s σ H D I h
  refine wpAny_For (thn (hi pins s σ H _ I h) fun v s1 h1 => thn h1 fun itv s2 h2 => ?_) hs
  obtain ⟨it, fp, tn, J, H2, e, I2, T, st2, f2, W, ⟨m0, w0⟩, turn⟩ := h2
  subst e
  -- what stays true of the iterator's objects through the loop
  have stat : ∀ {H' : Hp}, (∀ b ∈ fp, H' b = none) → ∀ b ∈ fp, FpOk X pins H' b := fun hn b hb => ⟨hn b hb, (f2 b hb).2⟩
  refine codeAny_forLoop_any (fun n s' => ∃ i σ' H', Inv X pins σ' H' s' ∧ tn i s'.heap ∧ (∀ b ∈ fp, H' b = none) ∧ W i n σ' H') ?_ m0 ⟨0, σ, H2, I2, st2, fun b hb => (f2 b hb).1, w0⟩
  rintro n s3 ⟨i, σ3, H3, I3, st3, fr3, w3⟩
  rcases turn i n σ3 H3 w3 with ⟨stop, qn⟩ | ⟨go, N, hN, step⟩
  · refine wpAny_passesOwn hp (thn (T.done X rfl rfl rfl hc i pins s3 σ3 H3 X.xe I3 (stat fr3) st3 stop) fun r s4 ⟨hr, I4⟩ => ?_)
    subst hr
    exact wpAny_execs_nil ⟨σ3, H3, I4, qn⟩
  · refine wpAny_passesOwn hp (thn (T.item X rfl rfl rfl hc i pins s3 σ3 H3 X.xe I3 (stat fr3) st3 go) fun r s4 ⟨u, hr, h4⟩ => ?_)
    subst hr
    refine wpAny_passesOwn hp (thn h4 fun _ s5 ⟨x, H5, I5, r5, y5, st5, fr5⟩ => ?_)
    have I5' := I5.pinned (stat fr5) (T.obj _ _ st5)
    refine wpAny_passesOwn hp (thn (hg _ s5 σ3 H5 x u _ I5' r5 (step x H5 y5)) fun _ s6 ⟨σ6, H6, I6, q6⟩ => ?_)
    refine wpAny_passesOwn hp (thn (hb _ s6 σ6 H6 _ I6 q6) fun f s7 q7 => ?_)
    have again : ∀ {σ7 : St} {H7 : Hp}, Inv X (pins ++ pinsAt fp s5.heap) σ7 H7 s7 → N σ7 H7 → ∃ m, m < n ∧ ∃ i σ' H', Inv X pins σ' H' s7 ∧ tn i s7.heap ∧ (∀ b ∈ fp, H' b = none) ∧ W i m σ' H' := fun {σ7 H7} I7 n7 => by
      obtain ⟨m', hm, w7⟩ := hN σ7 H7 n7
      refine ⟨m', hm, i + 1, σ7, H7, I7.unpinned, T.keep _ _ _ st5 fun b hb o e => (I7.pin (b, o) (List.mem_append_right _ (List.mem_append_right _ (mem_pinsAt hb e)))).1, fun b hb => ?_, w7⟩
      obtain ⟨o, e, d⟩ := T.obj _ _ st5 b hb
      exact (I7.pin (b, o) (List.mem_append_right _ (List.mem_append_right _ (mem_pinsAt hb e)))).2.1
    cases f with
    | next => obtain ⟨σ7, H7, I7, n7⟩ := q7; exact again I7 n7
    | cont => obtain ⟨σ7, H7, I7, n7⟩ := q7; exact again I7 n7
    | brk => obtain ⟨σ7, H7, I7, q7⟩ := q7; exact ⟨σ7, H7, I7.unpinned, q7⟩
    | ret v => obtain ⟨x7, σ7, H7, I7, r7, q7⟩ := q7; exact ⟨x7, σ7, H7, I7.unpinned, r7, q7⟩
end
theorem for_list {K : PySem.W.Frag} {a : Addr} {xs : List V} {g : TG} {tb : TS} {D : Ends} {σ : St} {H : Hp} (Pv : Nat → St → Hp → Prop) (h0 : Pv 0 σ H) (hl : ∀ i σ H, i ≤ xs.length → Pv i σ H → SqL K H a xs)
    (hs : ∀ i x σ H, xs[i]? = some x → Pv i σ H → g x σ H fun σ2 H2 => tb { D with nx := Pv (i + 1), ct := Pv (i + 1), bk := D.nx } σ2 H2) (hd : ∀ σ H, Pv xs.length σ H → D.nx σ H) :
    ∃ W : Nat → Nat → St → Hp → Prop, (∃ m, W 0 m σ H) ∧ ∀ i m σ H, W i m σ H →
      ((Itl K a).stop i H ∧ D.nx σ H) ∨ ((Itl K a).go i H ∧ ∃ N : St → Hp → Prop, (∀ σ' H', N σ' H' → ∃ m', m' < m ∧ W (i + 1) m' σ' H') ∧ ∀ x H', (Itl K a).yld i H x H' → g x σ H' fun σ2 H2 => tb { D with nx := N, ct := N, bk := D.nx } σ2 H2) := by
  refine ⟨fun i m σ H => m = xs.length - i ∧ i ≤ xs.length ∧ Pv i σ H, ⟨xs.length, by simp, Nat.zero_le _, h0⟩, ?_⟩
  rintro i m σ H ⟨rfl, hi, p⟩
  have q := hl i σ H hi p
  by_cases hlt : i < xs.length
  · refine .inr ⟨⟨xs, xs[i], q, by simp [hlt]⟩, Pv (i + 1), fun σ' H' p' => ⟨xs.length - (i + 1), by omega, rfl, hlt, p'⟩, fun x H' y => ?_⟩
    obtain ⟨e, y⟩ := y
    subst e
    exact hs i x σ _ (y xs q) p
  · have e : i = xs.length := by omega
    subst e
    exact .inl ⟨⟨xs, q, Nat.le_refl _⟩, hd σ H p⟩
theorem for_tup {K : PySem.W.Frag} {a : Addr} {xs : List V} {g : TG} {tb : TS} {D : Ends} {σ : St} {H : Hp} (Pv : Nat → St → Hp → Prop) (h0 : Pv 0 σ H) (hl : ∀ i σ H, i ≤ xs.length → Pv i σ H → SqT K H a xs)
    (hs : ∀ i x σ H, xs[i]? = some x → Pv i σ H → g x σ H fun σ2 H2 => tb { D with nx := Pv (i + 1), ct := Pv (i + 1), bk := D.nx } σ2 H2) (hd : ∀ σ H, Pv xs.length σ H → D.nx σ H) :
    ∃ W : Nat → Nat → St → Hp → Prop, (∃ m, W 0 m σ H) ∧ ∀ i m σ H, W i m σ H →
      ((Itt K a).stop i H ∧ D.nx σ H) ∨ ((Itt K a).go i H ∧ ∃ N : St → Hp → Prop, (∀ σ' H', N σ' H' → ∃ m', m' < m ∧ W (i + 1) m' σ' H') ∧ ∀ x H', (Itt K a).yld i H x H' → g x σ H' fun σ2 H2 => tb { D with nx := N, ct := N, bk := D.nx } σ2 H2) := by
  refine ⟨fun i m σ H => m = xs.length - i ∧ i ≤ xs.length ∧ Pv i σ H, ⟨xs.length, by simp, Nat.zero_le _, h0⟩, ?_⟩
  rintro i m σ H ⟨rfl, hi, p⟩
  have q := hl i σ H hi p
  by_cases hlt : i < xs.length
  · refine .inr ⟨⟨xs, xs[i], q, by simp [hlt]⟩, Pv (i + 1), fun σ' H' p' => ⟨xs.length - (i + 1), by omega, rfl, hlt, p'⟩, fun x H' y => ?_⟩
    obtain ⟨e, y⟩ := y
    subst e
    exact hs i x σ _ (y xs q) p
  · have e : i = xs.length := by omega
    subst e
    exact .inl ⟨⟨xs, q, Nat.le_refl _⟩, hd σ H p⟩
theorem for_range {lo : Int} {n : Nat} {g : TG} {tb : TS} {D : Ends} {σ : St} {H : Hp} (Pv : Nat → St → Hp → Prop) (h0 : Pv 0 σ H)
    (hs : ∀ i σ H, i < n → Pv i σ H → g (.int (lo + i)) σ H fun σ2 H2 => tb { D with nx := Pv (i + 1), ct := Pv (i + 1), bk := D.nx } σ2 H2) (hd : ∀ σ H, Pv n σ H → D.nx σ H) :
    ∃ W : Nat → Nat → St → Hp → Prop, (∃ m, W 0 m σ H) ∧ ∀ i m σ H, W i m σ H →
      ((Itr lo n).stop i H ∧ D.nx σ H) ∨ ((Itr lo n).go i H ∧ ∃ N : St → Hp → Prop, (∀ σ' H', N σ' H' → ∃ m', m' < m ∧ W (i + 1) m' σ' H') ∧ ∀ x H', (Itr lo n).yld i H x H' → g x σ H' fun σ2 H2 => tb { D with nx := N, ct := N, bk := D.nx } σ2 H2) := by
  refine ⟨fun i m σ H => m = n - i ∧ i ≤ n ∧ Pv i σ H, ⟨n, by simp, Nat.zero_le _, h0⟩, ?_⟩
  rintro i m σ H ⟨rfl, hi, p⟩
  by_cases hlt : i < n
  · refine .inr ⟨hlt, Pv (i + 1), fun σ' H' p' => ⟨n - (i + 1), by omega, rfl, hlt, p'⟩, fun x H' y => ?_⟩
    obtain ⟨e, y⟩ := y
    subst e y
    exact hs i σ _ hlt p
  · have e : i = n := by omega
    subst e
    exact .inl ⟨Nat.le_refl _, hd σ H p⟩
end L2
namespace L2
open PySem PySem.Spec PyProof.Rows
noncomputable abbrev R2 := V → V → Hp → VK → Prop
noncomputable def OpR (X : Cx) (f : Value → Value → Sem Value) (r : R2) : Prop :=
  ∀ (pins : List (Addr × Obj)) (s : Shared) (σ : St) (H : Hp) (x y : V) (v u : Value) (Q : VK), Inv X pins σ H s → RelV x v → RelV y u → r x y H Q →
    wpAny (model X.prog X.w) X.A (f v u) (EP X pins σ Q) X.xe s
noncomputable def CallR (X : Cx) (f : Value) (r : List V → Hp → VK → Prop) : Prop :=
  ∀ (pins : List (Addr × Obj)) (s : Shared) (σ : St) (H : Hp) (xs : List V) (us : List Value) (Q : VK), Inv X pins σ H s → Vals xs us → r xs H Q →
    wpAny (model X.prog X.w) X.A (call f us) (EP X pins σ Q) X.xe s
noncomputable def tOp (r : R2) (ta tb : TE) : TE := fun σ H Q => ta σ H fun x H1 => tb σ H1 fun y H2 => r x y H2 Q
noncomputable def rI (C : Int → Int → Prop) (g : Int → Int → V) : R2 := fun x y H Q => ∃ i j, x = .int i ∧ y = .int j ∧ C i j ∧ Q (g i j) H
noncomputable def rI0 (g : Int → Int → V) : R2 := fun x y H Q => ∃ i j, x = .int i ∧ y = .int j ∧ Q (g i j) H
section
variable {X : Cx} {a b c : Expr} {ta tb tc : TE} {pos : Pos}
theorem binT (ha : PE X a ta) (hb : PE X b tb) {pins : List (Addr × Obj)} {s : Shared} {σ : St} {H : Hp} {R : V → V → Hp → Prop} (I : Inv X pins σ H s)
    (h : ta σ H fun x H1 => tb σ H1 fun y H2 => R x y H2) {Q : Value → Shared → Prop} {f : Value → Value → Sem Value}
    (hf : ∀ v u s2 x y H2, Inv X pins σ H2 s2 → RelV x v → RelV y u → R x y H2 → wpAny (model X.prog X.w) X.A (f v u) Q X.xe s2) :
    wpAny (model X.prog X.w) X.A (eval a X.env) (fun v s₁ => wpAny (model X.prog X.w) X.A (eval b X.env) (fun u s₂ => wpAny (model X.prog X.w) X.A (f v u) Q X.xe s₂) X.xe s₁) X.xe s := by
  refine thn (ha pins s σ H _ I h) fun v s1 ⟨x, H1, I1, r1, q1⟩ => ?_
  refine thn (hb pins s1 σ H1 _ I1 q1) fun u s2 ⟨y, H2, I2, r2, q2⟩ => ?_
  exact hf v u s2 x y H2 I2 r1 r2 q2
theorem pe_op {op : Operator} {r : R2} (ho : OpR X (binaryOp op) r) (ha : PE X a ta) (hb : PE X b tb) : PE X (.BinOp a op b pos) (tOp r ta tb) := by
  intro pins s σ H Q I h
  exact wpAny_BinOp (binT ha hb I h fun v u s2 x y H2 I2 rx ry q => ho pins s2 σ H2 x y v u Q I2 rx ry q)
theorem opI {f : Value → Value → Sem Value} {C : Int → Int → Prop} {g : Int → Int → Int}
    (rule : ∀ (i j : Int) (t u : Tok) (s : Shared) (Q : Value → Shared → Prop) (E : Value → Shared → Prop), C i j → Q (.int (g i j) s.toks) { s with toks := s.toks + 1 } → wpAny (model X.prog X.w) X.A (f (.int i t) (.int j u)) Q E s) :
    OpR X f (rI C fun i j => .int (g i j)) := by
  intro pins s σ H x y v u Q I rx ry h
  obtain ⟨i, j, rfl, rfl, hc, q⟩ := h
  obtain ⟨t, rfl⟩ := rx
  obtain ⟨t', rfl⟩ := ry
  exact rule i j t t' s _ _ hc ⟨.int (g i j), H, I.tok _, ⟨_, rfl⟩, q⟩
theorem opI0 {f : Value → Value → Sem Value} {g : Int → Int → Int}
    (rule : ∀ (i j : Int) (t u : Tok) (s : Shared) (Q : Value → Shared → Prop) (E : Value → Shared → Prop), Q (.int (g i j) s.toks) { s with toks := s.toks + 1 } → wpAny (model X.prog X.w) X.A (f (.int i t) (.int j u)) Q E s) :
    OpR X f (rI0 fun i j => .int (g i j)) := by
  intro pins s σ H x y v u Q I rx ry h
  obtain ⟨i, j, rfl, rfl, q⟩ := h
  obtain ⟨t, rfl⟩ := rx
  obtain ⟨t', rfl⟩ := ry
  exact rule i j t t' s _ _ ⟨.int (g i j), H, I.tok _, ⟨_, rfl⟩, q⟩
theorem opB0 {f : Value → Value → Sem Value} {g : Int → Int → Bool}
    (rule : ∀ (i j : Int) (t u : Tok) (s : Shared) (Q : Value → Shared → Prop) (E : Value → Shared → Prop), Q (.bool (g i j)) s → wpAny (model X.prog X.w) X.A (f (.int i t) (.int j u)) Q E s) :
    OpR X f (rI0 fun i j => .bl (g i j)) := by
  intro pins s σ H x y v u Q I rx ry h
  obtain ⟨i, j, rfl, rfl, q⟩ := h
  obtain ⟨t, rfl⟩ := rx
  obtain ⟨t', rfl⟩ := ry
  exact rule i j t t' s _ _ ⟨.bl (g i j), H, I, rfl, q⟩
noncomputable def CDiv (i j : Int) : Prop := 0 < j ∧ j < 1073741824
noncomputable def CPow (i j : Int) : Prop := 0 ≤ j ∧ j ≤ 1000000 ∧ i.natAbs < 2 ^ 64
noncomputable def CMul (i j : Int) : Prop := (-(2 ^ 64) < i ∧ i < 2 ^ 64) ∨ (-(2 ^ 64) < j ∧ j < 2 ^ 64)
theorem CMul.ok {i j : Int} (h : CMul i j) : IntMulOk i j := by
  rcases h with ⟨h1, h2⟩ | ⟨h1, h2⟩
  · exact .of_left (intBits_le_64 h1 h2)
  · exact .of_right (intBits_le_64 h1 h2)
theorem op_add : OpR X (binaryOp .Add) (rI0 fun i j => .int (i + j)) := opI0 fun _ _ _ _ _ _ _ q => add_int q
theorem op_sub : OpR X (binaryOp .Sub) (rI0 fun i j => .int (i - j)) := opI0 fun _ _ _ _ _ _ _ q => sub_int q
theorem op_mul : OpR X (binaryOp .Mult) (rI CMul fun i j => .int (i * j)) := opI fun _ _ _ _ _ _ _ hc q => mul_int q hc.ok
theorem op_fdiv : OpR X (binaryOp .FloorDiv) (rI CDiv fun i j => .int (i / j)) := opI fun i j _ _ _ _ _ hc q => by
  have h1 : (0 : Int) < j := hc.1
  have h2 : j < 1073741824 := hc.2
  exact floordiv_int (by omega) (by rw [Int.fdiv_eq_ediv_of_nonneg i (by omega)]; exact q) (.inl (PyProof.noPylong_small (by omega)))
theorem op_mod : OpR X (binaryOp .Mod) (rI (fun _ j => 0 < j) fun i j => .int (i % j)) := opI fun i j _ _ _ _ _ hc q => by
  have h1 : (0 : Int) < j := hc
  exact mod_int' (by omega) (by rw [Int.fmod_eq_emod_of_nonneg i (by omega)]; exact q)
theorem op_pow : OpR X (binaryOp .Pow) (rI CPow fun i j => .int (i ^ j.toNat)) := opI fun _ _ _ _ _ _ _ hc q => pow_int_small hc.1 hc.2.1 hc.2.2 q
end
noncomputable def scal : V → V → Bool
  | .non, .non => true | .non, .int _ => true | .int _, .non => true | .non, .bl _ => true | .bl _, .non => true | .non, .str _ => true | .str _, .non => true
  | .int _, .int _ => true | .bl _, .bl _ => true | .str _, .str _ => true | .byt _, .byt _ => true
  | .int _, .str _ => true | .str _, .int _ => true | .bl _, .str _ => true | .str _, .bl _ => true
  | _, _ => false
noncomputable def rEq : R2 := fun x y H Q => scal x y = true ∧ Q (.bl (decide (x = y))) H
noncomputable def rNe : R2 := fun x y H Q => scal x y = true ∧ Q (.bl (!decide (x = y))) H
theorem dec_int {i j : Int} : decide (V.int i = V.int j) = (i == j) := by
  rw [Bool.eq_iff_iff]
  simp
theorem dec_bl {i j : Bool} : decide (V.bl i = V.bl j) = (i == j) := by
  rw [Bool.eq_iff_iff]
  simp
theorem dec_str {i j : Str} : decide (V.str i = V.str j) = (i == j) := by
  rw [Bool.eq_iff_iff]
  simp
theorem dec_byt {i j : Array UInt8} : decide (V.byt i = V.byt j) = (i.toList == j.toList) := by
  rw [Bool.eq_iff_iff]
  cases i
  cases j
  simp
section
variable {X : Cx} {a b c : Expr} {ta tb tc : TE} {pos : Pos}
theorem fin_bl {pins : List (Addr × Obj)} {σ : St} {H : Hp} {s : Shared} {Q : VK} {k k' : Bool} (I : Inv X pins σ H s) (q : Q (.bl k) H) (e : k = k') : EP X pins σ Q (.bool k') s := by
  subst e
  exact ⟨.bl k, H, I, rfl, q⟩
theorem op_eq : OpR X (compareOp .Eq) rEq := by
  intro pins s σ H x y v u Q I rx ry h
  obtain ⟨hs, q⟩ := h
  cases x with
  | non =>
    cases rx
    cases y with
    | non => cases ry; exact PySem.EqNone.eq_none_none (fin_bl I q (by simp))
    | bl j => cases ry; exact PySem.EqNone.eq_none_bool (fin_bl I q (by simp))
    | int j => obtain ⟨t', rfl⟩ := ry; exact PySem.EqNone.eq_none_int (fin_bl I q (by simp))
    | str j => obtain ⟨t', rfl⟩ := ry; exact PySem.EqNone.eq_none_str (fin_bl I q (by simp))
    | _ => exact absurd (show false = true from hs) Bool.false_ne_true
  | bl i =>
    cases rx
    cases y with
    | non => cases ry; exact PySem.EqNone.eq_bool_none (fin_bl I q (by simp))
    | bl j => cases ry; exact eq_bool (fin_bl I q dec_bl)
    | str j => obtain ⟨t', rfl⟩ := ry; exact PySem.EqMixed.eq_bool_str (fin_bl I q (by simp))
    | _ => exact absurd (show false = true from hs) Bool.false_ne_true
  | int i =>
    obtain ⟨t, rfl⟩ := rx
    cases y with
    | non => cases ry; exact PySem.EqNone.eq_int_none (fin_bl I q (by simp))
    | int j => obtain ⟨t', rfl⟩ := ry; exact eq_int (fin_bl I q dec_int)
    | str j => obtain ⟨t', rfl⟩ := ry; exact PySem.EqMixed.eq_int_str (fin_bl I q (by simp))
    | _ => exact absurd (show false = true from hs) Bool.false_ne_true
  | str i =>
    obtain ⟨t, rfl⟩ := rx
    cases y with
    | non => cases ry; exact PySem.EqNone.eq_str_none (fin_bl I q (by simp))
    | bl j => cases ry; exact PySem.EqMixed.eq_str_bool (fin_bl I q (by simp))
    | int j => obtain ⟨t', rfl⟩ := ry; exact PySem.EqMixed.eq_str_int (fin_bl I q (by simp))
    | str j => obtain ⟨t', rfl⟩ := ry; exact eq_str (fin_bl I q dec_str)
    | _ => exact absurd (show false = true from hs) Bool.false_ne_true
  | byt i =>
    obtain ⟨t, rfl⟩ := rx
    cases y with
    | byt j => obtain ⟨t', rfl⟩ := ry; exact PySem.W.eq_bytes (fin_bl I q dec_byt)
    | _ => exact absurd (show false = true from hs) Bool.false_ne_true
  | _ => cases y <;> exact absurd (show false = true from hs) Bool.false_ne_true
theorem op_ne : OpR X (compareOp .NotEq) rNe := by
  intro pins s σ H x y v u Q I rx ry h
  obtain ⟨hs, q⟩ := h
  cases x with
  | non =>
    cases rx
    cases y with
    | non => cases ry; exact PySem.EqNone.ne_none_none (fin_bl I q (by simp))
    | bl j => cases ry; exact PySem.EqNone.ne_none_bool (fin_bl I q (by simp))
    | int j => obtain ⟨t', rfl⟩ := ry; exact PySem.EqNone.ne_none_int (fin_bl I q (by simp))
    | str j => obtain ⟨t', rfl⟩ := ry; exact PySem.EqNone.ne_none_str (fin_bl I q (by simp))
    | _ => exact absurd (show false = true from hs) Bool.false_ne_true
  | bl i =>
    cases rx
    cases y with
    | non => cases ry; exact PySem.EqNone.ne_bool_none (fin_bl I q (by simp))
    | bl j => cases ry; exact ne_bool (fin_bl I q (congrArg not dec_bl))
    | str j => obtain ⟨t', rfl⟩ := ry; exact PySem.EqMixed.ne_bool_str (fin_bl I q (by simp))
    | _ => exact absurd (show false = true from hs) Bool.false_ne_true
  | int i =>
    obtain ⟨t, rfl⟩ := rx
    cases y with
    | non => cases ry; exact PySem.EqNone.ne_int_none (fin_bl I q (by simp))
    | int j => obtain ⟨t', rfl⟩ := ry; exact ne_int (fin_bl I q (congrArg not dec_int))
    | str j => obtain ⟨t', rfl⟩ := ry; exact PySem.EqMixed.ne_int_str (fin_bl I q (by simp))
    | _ => exact absurd (show false = true from hs) Bool.false_ne_true
  | str i =>
    obtain ⟨t, rfl⟩ := rx
    cases y with
    | non => cases ry; exact PySem.EqNone.ne_str_none (fin_bl I q (by simp))
    | bl j => cases ry; exact PySem.EqMixed.ne_str_bool (fin_bl I q (by simp))
    | int j => obtain ⟨t', rfl⟩ := ry; exact PySem.EqMixed.ne_str_int (fin_bl I q (by simp))
    | str j => obtain ⟨t', rfl⟩ := ry; exact ne_str (fin_bl I q (congrArg not dec_str))
    | _ => exact absurd (show false = true from hs) Bool.false_ne_true
  | byt i =>
    obtain ⟨t, rfl⟩ := rx
    cases y with
    | byt j => obtain ⟨t', rfl⟩ := ry; exact PySem.W.ne_bytes (fin_bl I q (congrArg not dec_byt))
    | _ => exact absurd (show false = true from hs) Bool.false_ne_true
  | _ => cases y <;> exact absurd (show false = true from hs) Bool.false_ne_true
theorem op_lt : OpR X (compareOp .Lt) (rI0 fun i j => .bl (decide (i < j))) := opB0 fun _ _ _ _ _ _ _ q => lt_int q
theorem op_le : OpR X (compareOp .LtE) (rI0 fun i j => .bl (decide (i ≤ j))) := opB0 fun _ _ _ _ _ _ _ q => le_int q
theorem op_gt : OpR X (compareOp .Gt) (rI0 fun i j => .bl (decide (j < i))) := opB0 fun _ _ _ _ _ _ _ q => gt_int q
theorem op_ge : OpR X (compareOp .GtE) (rI0 fun i j => .bl (decide (j ≤ i))) := opB0 fun _ _ _ _ _ _ _ q => ge_int q
theorem nomark (b : Expr) {op : CmpOp} (h : op ≠ .In := by decide) (h2 : op ≠ .NotIn := by decide) : behindInMarks op b = false := by
  have e1 : (op == CmpOp.In) = false := by cases op <;> first | rfl | exact absurd rfl h
  have e2 : (op == CmpOp.NotIn) = false := by cases op <;> first | rfl | exact absurd rfl h2
  cases b <;> simp [behindInMarks, e1, e2]
theorem pe_cmpR {op : CmpOp} {r : R2} (ho : OpR X (compareOp op) r) (ha : PE X a ta) (hb : PE X b tb) (hm : behindInMarks op b = false) : PE X (.Compare a [op] [b] pos) (tOp r ta tb) := by
  intro pins s σ H Q I h
  exact wpAny_Compare1 (binT ha hb I h fun v u s2 x y H2 I2 rx ry q => ho pins s2 σ H2 x y v u Q I2 rx ry q) hm
noncomputable def tTest (t : TE) : TT := fun σ H Q => t σ H fun x H' => ∃ k, x = .bl k ∧ Q k H'
theorem pt_cmpR {op : CmpOp} {r : R2} (ho : OpR X (compareOp op) r) (ha : PE X a ta) (hb : PE X b tb) (hm : behindInMarks op b = false) : PT X (.Compare a [op] [b] pos) (tTest (tOp r ta tb)) := by
  intro pins s σ H Q I h
  refine wpAny_isTrue_Compare1 (thn (ha pins s σ H _ I h) fun v s1 ⟨x, H1, I1, r1, q1⟩ => thn (hb pins s1 σ H1 _ I1 q1) fun u s2 ⟨y, H2, I2, r2, q2⟩ =>
    thn (ho pins s2 σ H2 x y v u _ I2 r1 r2 q2) fun c s3 ⟨z, H3, I3, r3, k, e, q3⟩ => ?_) hm
  subst e
  cases r3
  exact wpAny_truthy_bool ⟨H3, I3, q3⟩
noncomputable def tChain (r r' : R2) (ta tb tc : TE) : TE := fun σ H Q => ta σ H fun x H1 => tb σ H1 fun y H2 => r x y H2 fun z H3 => ∃ k, z = .bl k ∧
  (if k = true then tc σ H3 fun w' H4 => r' y w' H4 Q else Q (.bl false) H3)
theorem pe_chain {op op' : CmpOp} {r r' : R2} (ho : OpR X (compareOp op) r) (ho' : OpR X (compareOp op') r') (ha : PE X a ta) (hb : PE X b tb) (hc : PE X c tc)
    (hm : lastMarks [op, op'] [b, c] = false := by with_unfolding_all rfl) : PE X (.Compare a [op, op'] [b, c] pos) (tChain r r' ta tb tc) := by
  intro pins s σ H Q I h
  refine Compare_chain (thn (ha pins s σ H _ I h) fun v s1 ⟨x, H1, I1, r1, q1⟩ => chain_link (thn (hb pins s1 σ H1 _ I1 q1) fun u s2 ⟨y, H2, I2, r2, q2⟩ =>
    thn (ho pins s2 σ H2 x y v u _ I2 r1 r2 q2) fun d s3 ⟨z, H3, I3, r3, k, e, q3⟩ => ?_)) hm
  subst e
  cases r3
  refine wpAny_truthy_bool ?_
  cases k with
  | false => exact ite_ff ⟨.bl false, H3, I3, rfl, q3⟩
  | true => exact ite_tt (chain_last (thn (hc pins s3 σ H3 _ I3 q3) fun w' s4 ⟨z', H4, I4, r4, q4⟩ => ho' pins s4 σ H4 y z' u w' Q I4 r2 r4 q4))
theorem line63 : (sizeLine : Nat) < 2 ^ 63 := by rw [sizeLine_eq]; decide
theorem vals1 {x : V} {us : List Value} (r : Vals [x] us) : ∃ u, us = [u] ∧ RelV x u := by
  cases r with
  | cons r1 r2 => cases r2; exact ⟨_, rfl, r1⟩
theorem vals2 {x y : V} {us : List Value} (r : Vals [x, y] us) : ∃ u w', us = [u, w'] ∧ RelV x u ∧ RelV y w' := by
  cases r with
  | cons r1 r2 =>
    cases r2 with
    | cons r3 r4 => cases r4; exact ⟨_, _, rfl, r1, r3⟩
theorem call_int1 : CallR X (.type "int") (fun xs H Q => (∃ i, xs = [.int i] ∧ Q (.int i) H) ∨ ∃ k, xs = [.bl k] ∧ Q (.int (if k then 1 else 0)) H) := by
  intro pins s σ H xs us Q I r h
  rcases h with ⟨i, rfl, q⟩ | ⟨k, rfl, q⟩
  · obtain ⟨u, rfl, t, rfl⟩ := vals1 r
    exact call_int_int ⟨.int i, H, I, ⟨_, rfl⟩, q⟩
  · obtain ⟨u, rfl, r1⟩ := vals1 r
    cases r1
    exact call_int_bool ⟨.int (if k then 1 else 0), H, I.tok _, ⟨_, rfl⟩, q⟩
end
end L2
namespace L2
open PySem PySem.Spec PyProof.Rows
structure ObjM (h : Heap) (x dx C : Addr) (mA : Str → Option Value) : Prop where
  obj : h.get? x = some (PySem.W.instObj C dx)
  ns : h.Ns1 dx mA
  ne : dx ≠ x
theorem lookIn_ns {h : Heap} {dx : Addr} {mA : Str → Option Value} (n : h.Ns1 dx mA) : ∃ od, h.get? dx = some od ∧ ∀ name, PySem.W.lookIn name od = some (mA name) := by
  obtain ⟨o, es, ep, ho, hd, hk, _, hm⟩ := n
  refine ⟨o, ho, fun name => ?_⟩
  have e := hm name
  unfold nsFind findBy at e
  rw [← Array.find?_toList] at e
  unfold PySem.W.lookIn
  rw [hd]
  dsimp only
  split
  · rename_i y q
    rw [q] at e
    exact congrArg some e
  · rename_i q
    rw [q] at e
    have a : es.toList.any (·.refKey) = false := by
      rw [List.any_eq_false]
      intro y hy
      obtain ⟨z, t, hkey⟩ := hk y (Array.mem_toList_iff.mp hy)
      simp [DictEntry.refKey, hkey]
    have a' : ¬ es.toList.any (·.refKey) = true := by rw [a]; exact Bool.false_ne_true
    rw [if_neg a']
    exact congrArg some e
theorem ObjM.look {h : Heap} {x dx C : Addr} {mA : Str → Option Value} (I : ObjM h x dx C mA) : ∃ od, PySem.W.InstAt h x (PySem.W.instObj C dx) C (some od) ∧ ∀ name, PySem.W.lookIn name od = some (mA name) :=
  let ⟨od, ho, hl⟩ := lookIn_ns I.ns
  ⟨od, ⟨I.obj, rfl, rfl, ho⟩, hl⟩
section
variable {prog : Program} {w : World} {A : Around} {E : Value → Shared → Prop} {s : Shared} {K : PySem.W.Frag} {x dx C f : Addr} {mA : Str → Option Value} {name : Str} {v : Value}
end
noncomputable def putF (f : Str) (v : V) : List (Str × V) → List (Str × V)
  | [] => [(f, v)]
  | (g, x) :: r => if g = f then (g, v) :: r else (g, x) :: putF f v r
theorem lookup_putF (f g : Str) (v : V) : ∀ fs : List (Str × V), (putF f v fs).lookup g = if g = f then some v else fs.lookup g
  | [] => by
    show List.lookup g [(f, v)] = _
    by_cases h : g = f
    · have hb : (g == f) = true := beq_iff_eq.mpr h
      simp only [List.lookup, hb, if_pos h]
    · have hb : (g == f) = false := beq_eq_false_iff_ne.mpr h
      simp only [List.lookup, hb, if_neg h]
  | (k, x) :: r => by
    have ih := lookup_putF f g v r
    rw [show putF f v ((k, x) :: r) = (if k = f then (k, v) :: r else (k, x) :: putF f v r) from rfl]
    by_cases hk : k = f
    · rw [if_pos hk]
      by_cases h : g = k
      · have hb : (g == k) = true := beq_iff_eq.mpr h
        simp only [List.lookup, hb, if_pos (h.trans hk)]
      · have hb : (g == k) = false := beq_eq_false_iff_ne.mpr h
        simp only [List.lookup, hb, if_neg (fun e : g = f => h (e.trans hk.symm))]
    · rw [if_neg hk]
      by_cases h : g = k
      · have hb : (g == k) = true := beq_iff_eq.mpr h
        simp only [List.lookup, hb, if_neg (fun e : g = f => hk (h.symm.trans e))]
      · have hb : (g == k) = false := beq_eq_false_iff_ne.mpr h
        simp only [List.lookup, hb]
        exact ih
theorem keys_putF (f : Str) (v : V) : ∀ fs : List (Str × V), f ∈ (putF f v fs).map (·.1) ∧ ∀ g, g ∈ fs.map (·.1) → g ∈ (putF f v fs).map (·.1)
  | [] => ⟨by simp [putF], fun g h => by simp at h⟩
  | (k, x) :: r => by
    obtain ⟨i1, i2⟩ := keys_putF f v r
    rw [show putF f v ((k, x) :: r) = (if k = f then (k, v) :: r else (k, x) :: putF f v r) from rfl]
    by_cases hk : k = f
    · rw [if_pos hk]
      subst hk
      exact ⟨by simp, fun g h => by simpa using h⟩
    · rw [if_neg hk]
      refine ⟨?_, fun g h => ?_⟩
      · rw [List.map_cons]
        exact List.mem_cons_of_mem _ i1
      · rw [List.map_cons] at h ⊢
        rcases List.mem_cons.mp h with e | e
        · exact List.mem_cons.mpr (.inl e)
        · exact List.mem_cons_of_mem _ (i2 g e)
theorem RelO.some_of {v : V} {o : Option Value} (r : RelO (some v) o) : ∃ u, o = some u ∧ RelV v u := by
  cases o with
  | none => exact (show False from r).elim
  | some u => exact ⟨u, rfl, r⟩
theorem handed_of {v : V} {u : Value} (r : RelV v u) : PySem.W.handedIn u = true := by
  cases v with
  | non => cases (show u = Value.none from r); rfl
  | bl b => cases (show u = Value.bool b from r); rfl
  | int i => obtain ⟨t, e⟩ := (show ∃ t, u = Value.int i t from r); cases e; rfl
  | str x => obtain ⟨t, e⟩ := (show ∃ t, u = Value.str x t from r); cases e; rfl
  | byt b => obtain ⟨t, e⟩ := (show ∃ t, u = Value.bytes b t from r); cases e; rfl
  | flt b => obtain ⟨t, e⟩ := (show ∃ t, u = Value.float b t from r); cases e; rfl
  | ref a => cases (show u = Value.ref a from r); rfl
  | ty n => cases (show u = Value.type n from r); rfl
section
variable {P : Program} {w : World} {H H' : Hp} {h h' : Heap} {a C dx : Addr} {fs fs' : List (Str × V)}
theorem ins_get (hok : HOk P w H h) (e : H a = some (.ins C dx fs)) : ∃ mA, ObjM h a dx C mA ∧ (∀ f, RelO (fs.lookup f) (mA f)) ∧ PySem.Within mA (fs.map (·.1)) ∧ fs.length ≤ 1000 ∧ H dx = some (.own a) := by
  obtain ⟨d, z, ne, ob, mA, n, r, q⟩ := (show ObjOk P w H h a (.ins C dx fs) from hok a _ e)
  exact ⟨mA, ⟨ob, n, ne⟩, r, q, z, d⟩
end
structure Cls (K : PySem.W.Frag) (C : Addr) : Prop where
  pg : PySem.W.plainGet K C Str.empty = true
  hd : PySem.W.hasDictIn K C = true
  po : PySem.W.plainOver K C = true
  sa : PySem.W.findIn K (.ref C) "__setattr__" = some (some (.builtin "object.__setattr__"))
theorem Cls.get {K : PySem.W.Frag} {C : Addr} (c : Cls K C) (f : Str) : PySem.W.plainGet K C f = true := c.pg
noncomputable def NoAttr (K : PySem.W.Frag) (C : Addr) (f : Str) : Prop := PySem.W.findIn K (.ref C) f = some none
theorem NoAttr.taker {K : PySem.W.Frag} {C : Addr} {f : Str} (n : NoAttr K C f) : PySem.W.takerIn K C f = some none := by
  unfold PySem.W.takerIn
  rw [show PySem.W.findIn K (.ref C) f = some none from n]
  rfl
section
variable {X : Cx} {pins : List (Addr × Obj)} {σ : St} {H : Hp} {s : Shared} {a C dx : Addr} {fs : List (Str × V)} {f : Str} {v : V} {A : Around} {E : Value → Shared → Prop}
theorem attr_of {prog : Program} {w : World} {env : Env} {e : Expr} {f : Str} {pos : Pos} {s : Shared} {Q : Value → Shared → Prop} (hb : attributeBase e f env (eval e env) = eval e env)
    (h : wpAny (model prog w) A (eval e env) (fun o s₁ => wpAny (model prog w) A (getAttr o f true) Q E s₁) E s) : wpAny (model prog w) A (eval (.Attribute e f pos) env) Q E s :=
  Attribute_any_ h (by rw [arm_eval_Attribute, hb])
end
section
variable {X : Cx} {o e value : Expr} {f : Str} {pos pos' tpos : Pos} {ta tv : TE}
end
section
variable {X : Cx} {pins : List (Addr × Obj)} {σ : St} {H : Hp} {s : Shared} {A : Around} {E : Value → Shared → Prop} {Q : Value → Shared → Prop} {c : Value} {b : Bool}
inductive TyOf (K : PySem.W.Frag) (H : Hp) : V → Value → Prop where
  | non : TyOf K H .non (.type "NoneType")
  | bl (x : Bool) : TyOf K H (.bl x) (.type "bool")
  | int (i : Int) : TyOf K H (.int i) (.type "int")
  | str (x : Str) : TyOf K H (.str x) (.type "str")
  | flt (x : UInt64) : TyOf K H (.flt x) (.type "float")
  | lst {a : Addr} {xs : List V} (e : H a = some (.lst xs)) : TyOf K H (.ref a) (.type "list")
  | frz {a : Addr} {o : Obj} {xs : List V} (e : H a = some (.frz o (.lst xs))) : TyOf K H (.ref a) (.type "list")
  | tup {a : Addr} {xs : List V} (e : H a = some (.tup xs)) : TyOf K H (.ref a) (.type "tuple")
  | dK {a : Addr} {kvs : List (Key × V)} (e : H a = some (.dK kvs)) : TyOf K H (.ref a) (.type "dict")
  | dT {a : Addr} {kvs : List (List Key × V)} (e : H a = some (.dT kvs)) : TyOf K H (.ref a) (.type "dict")
  | ins {a C dx : Addr} {fs : List (Str × V)} (e : H a = some (.ins C dx fs)) (cl : Cls K C) (ha : PySem.W.findIn K (.ref C) "__class__" = some (some (.builtin "object.__class__")))
      (hn : PySem.W.specialIn K (.builtin "object.__class__") "__get__" = some (some (.builtin "getset_descriptor.__get__"))) (htk : PySem.W.takesIn K (.builtin "object.__class__") = some true)
      (hm : PySem.W.mroIn K C (.type "object") = some true) : TyOf K H (.ref a) (.ref C)
theorem isinst_ok {x : V} {u t : Value} (I : Inv X pins σ H s) (rx : RelV x u) (ty : TyOf X.K H x t) (e : PySem.W.kitOne X.K t c = some b) (h : ∀ tk, Q (.bool b) { s with toks := tk }) :
    wpAny (model X.prog X.w) A (call (.builtin "isinstance") [u, c]) Q E s := by
  cases ty with
  | non => cases (show u = Value.none from rx); exact PySem.W.kia_one PySem.W.kitx_none I.kIn True.intro e (fun z => nomatch z) h
  | bl y => cases (show u = Value.bool y from rx); exact PySem.W.kia_one PySem.W.kitx_bool I.kIn True.intro e (fun z => nomatch z) h
  | int i => obtain ⟨t, q⟩ := (show ∃ t, u = Value.int i t from rx); cases q; exact PySem.W.kia_one PySem.W.kitx_int I.kIn True.intro e (fun z => nomatch z) h
  | str y => obtain ⟨t, q⟩ := (show ∃ t, u = Value.str y t from rx); cases q; exact PySem.W.kia_one PySem.W.kitx_str I.kIn True.intro e (fun z => nomatch z) h
  | flt y => obtain ⟨t, q⟩ := (show ∃ t, u = Value.float y t from rx); cases q; exact PySem.W.kia_one PySem.W.kitx_float I.kIn True.intro e (fun z => nomatch z) h
  | @lst a xs ea =>
    cases (show u = Value.ref a from rx)
    obtain ⟨_, _, n, _, h1⟩ := (show ObjOk X.prog X.w H s.heap a (.lst xs) from I.hok a _ ea)
    exact PySem.W.kia_one PySem.W.kitx_list I.kIn ⟨_, h1, rfl⟩ e (fun z => nomatch z) h
  | @frz a ob xs ea =>
    cases (show u = Value.ref a from rx)
    obtain ⟨_, _, _, n, _, h1⟩ := (show ObjOk X.prog X.w H s.heap a (.frz ob (.lst xs)) from I.hok a _ ea)
    exact PySem.W.kia_one PySem.W.kitx_list I.kIn ⟨_, h1, rfl⟩ e (fun z => nomatch z) h
  | @tup a xs ea =>
    cases (show u = Value.ref a from rx)
    obtain ⟨_, _, _, p⟩ := (show ObjOk X.prog X.w H s.heap a (.tup xs) from I.hok a _ ea)
    obtain ⟨o, h1, h2, _⟩ := p
    exact PySem.W.kia_one PySem.W.kitx_tuple I.kIn ⟨o, h1, h2⟩ e (fun z => nomatch z) h
  | @dK a kvs ea =>
    cases (show u = Value.ref a from rx)
    obtain ⟨_, _, vs, _, p⟩ := (show ObjOk X.prog X.w H s.heap a (.dK kvs) from I.hok a _ ea)
    obtain ⟨o, es, ep, h1, h2, _⟩ := p
    exact PySem.W.kia_one PySem.W.kitx_dict I.kIn ⟨o, h1, h2.1⟩ e (fun z => nomatch z) h
  | @dT a kvs ea =>
    cases (show u = Value.ref a from rx)
    obtain ⟨_, _, xs, _, o, es, ep, h1, h2, _⟩ := (show ObjOk X.prog X.w H s.heap a (.dT kvs) from I.hok a _ ea)
    exact PySem.W.kia_one PySem.W.kitx_dict I.kIn ⟨o, h1, h2.1⟩ e (fun z => nomatch z) h
  | @ins a C dx fs ea cl ha hn htk hm =>
    cases (show u = Value.ref a from rx)
    obtain ⟨mA, O, _⟩ := ins_get I.hok ea
    obtain ⟨od, J, _⟩ := O.look
    exact PySem.W.kia_one (PySem.W.kitx_own (cl.get _) cl.hd ha hn htk hm) I.kIn J e (fun z => nomatch z) h
end
end L2
namespace L2
open PySem PySem.Spec PyProof.Rows
structure Room (k : Nat) (A : Around) : Prop where
  hd : A.handled = none
  dp : A.depth + 3 * k + 5 < recursionLimit
  un : A.units + 16 * k + 200 < cLine
  gd : A.guards = some []
theorem Room.mono {j k : Nat} {A : Around} (r : Room k A) (h : j ≤ k) : Room j A := ⟨r.hd, by have := r.dp; omega, by have := r.un; omega, r.gd⟩
theorem Room.deeper {k : Nat} {A : Around} (r : Room (k + 1) A) (env : Env) : Room k (A.deeper env) :=
  ⟨r.hd, by have := r.dp; show A.depth + 1 + 3 * k + 5 < _; omega, by have := r.un; show A.units + 3 + 16 * k + 200 < _; omega, r.gd⟩
theorem make_depth {A : Around} {C : Addr} {us : List Value} {kw : List (Str × Value)} : (A.under (.builtin "type.__call__" ⟨.ref C :: us, kw⟩)).depth = A.depth + 1 := by
  first | rfl | simp [Around.under, Code.weight, Code.isCreation, Code.isGuard, Code.isCaller, Code.frames, Code.isFrame, guardIds]
theorem make_units {A : Around} {C : Addr} {us : List Value} {kw : List (Str × Value)} : (A.under (.builtin "type.__call__" ⟨.ref C :: us, kw⟩)).units = A.units + 1 := by
  first | rfl | simp [Around.under, Code.cUnits, Code.frames, Code.isFrame]
theorem make_guards {A : Around} {C : Addr} {us : List Value} {kw : List (Str × Value)} : (A.under (.builtin "type.__call__" ⟨.ref C :: us, kw⟩)).guards = A.guards := by
  have h : Code.guards (.builtin "type.__call__" ⟨.ref C :: us, kw⟩) = [] := by first | rfl | simp [Code.guards, Code.isGuard, guardIds]
  unfold Around.under
  dsimp only
  rw [h]; cases A.guards <;> rfl
theorem Room.make {k : Nat} {A : Around} (r : Room (k + 1) A) (C : Addr) (us : List Value) (kw : List (Str × Value)) : Room k (A.under (.builtin "type.__call__" ⟨.ref C :: us, kw⟩)) :=
  ⟨r.hd, by have := r.dp; rw [make_depth]; omega, by have := r.un; rw [make_units]; omega, by rw [make_guards]; exact r.gd⟩
theorem Room.depth {k : Nat} {A : Around} (r : Room k A) : A.depth < recursionLimit := by have := r.dp; omega
theorem Room.units {k : Nat} {A : Around} (r : Room k A) : A.units + 64 < cLine := by have := r.un; omega
noncomputable def tNil : TA := fun _ H Q => Q [] H
noncomputable def tCons (ta : TE) (tr : TA) : TA := fun σ H Q => ta σ H fun x H1 => tr σ H1 fun xs H2 => Q (x :: xs) H2
section
variable {X : Cx} {e : Expr} {es : List Expr} {te : TE} {t : TA} {pos : Pos}
theorem pa_nil : PA X [] tNil := fun _ _ _ _ H Q I h => Calls.spliced_nil ⟨[], H, I, .nil, h⟩
theorem pa_cons (ha : PE X e te) (hr : PA X es t) (hs : starEach (e :: es) X.env = (false, eval e X.env) :: starEach es X.env := by rfl) : PA X (e :: es) (tCons te t) := by
  intro pos pins s σ H Q I h
  rw [hs]
  show wpAny _ _ (spliced ((false, eval e X.env) :: backTo pos (starEach es X.env))) _ _ s
  refine Calls.spliced_cons (thn (ha pins s σ H _ I h) fun u s1 ⟨x, H1, I1, r1, q1⟩ => ?_)
  exact thn (hr pos pins s1 σ H1 _ I1 q1) fun us s2 ⟨xs, H2, I2, r2, q2⟩ => ⟨x :: xs, H2, I2, .cons r1 r2, q2⟩
noncomputable def tTup (t : TA) : TE := fun σ H Q => t σ H fun xs H1 => xs.length ≤ sizeLine ∧ ∀ p, H1 p = none → Q (.ref p) (upd H1 p (.tup xs))
noncomputable def tLst (t : TA) : TE := fun σ H Q => t σ H fun xs H1 => xs.length ≤ sizeLine ∧ ∀ p, H1 p = none → Q (.ref p) (upd H1 p (.lst xs))
theorem pe_tup {x1} (h : PA X es t) : PE X (.Tuple es x1 pos) (tTup t) := by
  intro pins s σ H Q I hq
  refine wpAny_Tuple_spliced (thn (h pos pins s σ H _ I hq) fun us s1 ⟨xs, H1, I1, r, z, q⟩ => ⟨by rw [← r.length]; exact z, ?_⟩)
  have hf : H1 s1.heap.objs.size = none := I1.hok.fresh (Nat.le_refl _)
  refine ⟨.ref s1.heap.objs.size, upd H1 s1.heap.objs.size (.tup xs), I1.laid (t' := s1.toks) (fun b u e => Heap.get?_push_of_some _ e) (Nat.le_refl _) ?_, rfl, q _ hf⟩
  exact ⟨z, us, r, ⟨_, Heap.get?_push_size _ rfl, rfl, _, rfl⟩⟩
theorem pe_lst (h : PA X es t) : PE X (.List es pos) (tLst t) := by
  intro pins s σ H Q I hq
  refine wpAny_List_spliced (thn (h pos pins s σ H _ I hq) fun us s1 ⟨xs, H1, I1, r, z, q⟩ => ⟨by rw [← r.length]; exact z, ?_⟩)
  have hf : H1 s1.heap.objs.size = none := I1.hok.fresh (Nat.le_refl _)
  refine ⟨.ref s1.heap.objs.size, upd H1 s1.heap.objs.size (.lst xs), I1.laid (t' := s1.toks) (fun b u e => Heap.get?_push_of_some _ e) (Nat.le_refl _) ?_, rfl, q _ hf⟩
  exact ⟨z, us, 0, r, Heap.get?_push_size _ rfl⟩
end
noncomputable abbrev Sp := List V → Hp → VK → XK → Prop
noncomputable abbrev CXT := List Env → Hp → Shared → XK → Value → Shared → Prop
structure Env0 (P : Program) (w : World) (K : PySem.W.Frag) (mg : Str → Option Value) (base : Heap) (A : Around) (outer : List Env) (s : Shared) (H : Hp) : Prop where
  frames : A.frames = some outer
  mod : Mod K mg base
  bs : ∀ b o, base.get? b = some o → s.heap.get? b = some o ∧ H b = none
  bsz : base.objs.size ≤ s.heap.objs.size
  funs : s.heap.FunFrames base outer
  frf : ∀ b ∈ frs outer, H b = none
  hok : HOk P w H s.heap
  bare : AllBare s.gens
noncomputable def CE (outer : List Env) (P : Program) (w : World) (H : Hp) (s : Shared) (Q : VK) (u : Value) (s' : Shared) : Prop :=
  ∃ v H', s'.os = s.os ∧ AllBare s'.gens ∧ Un (frs outer) [] H H' s.heap s'.heap ∧ HOk P w H' s'.heap ∧ RelV v u ∧ Q v H'
noncomputable def CR (CX : CXT) (outer : List Env) (P : Program) (w : World) (H : Hp) (s : Shared) (Q : VK) (E : XK) (r : Result) (s' : Shared) : Prop :=
  match r with
  | .ok (.ret u) => CE outer P w H s Q u s'
  | .ok _ => False
  | .error e => CX outer H s E e s'
structure FnOk (P : Program) (w : World) (K : PySem.W.Frag) (mg : Str → Option Value) (base : Heap) (CX : CXT) (k : Nat) (f : Addr) (fd : FuncData) (ps : List Str) (sp : Sp) : Prop where
  len : ∀ vs H Q E, sp vs H Q E → vs.length = ps.length
  run : ∀ (A : Around) (outer : List Env) (s : Shared) (H : Hp) (args : Args) (us : List Value) (vs : List V) (Q : VK) (E : XK), Room k A → Env0 P w K mg base A outer s H → BindsTo s fd args (ps.zip us) → Vals vs us → sp vs H Q E →
    codeAny (model P w) A (.call (.ref f) args) (CR CX outer P w H s Q E) s
theorem FnOk.imp {P : Program} {w : World} {K : PySem.W.Frag} {mg : Str → Option Value} {base : Heap} {CX : CXT} {k : Nat} {f : Addr} {fd : FuncData} {ps : List Str} {sp sp' : Sp} (F : FnOk P w K mg base CX k f fd ps sp)
    (h : ∀ vs H Q E, sp' vs H Q E → sp vs H Q E) : FnOk P w K mg base CX k f fd ps sp' :=
  ⟨fun vs H Q E q => F.len vs H Q E (h _ _ _ _ q), fun A outer s H args us vs Q E hr he hb hv hs => F.run A outer s H args us vs Q E hr he hb hv (h _ _ _ _ hs)⟩
theorem Env0.make {P : Program} {w : World} {K : PySem.W.Frag} {mg : Str → Option Value} {base : Heap} {A : Around} {outer : List Env} {s : Shared} {H : Hp} (e : Env0 P w K mg base A outer s H) (C : Addr) (us : List Value) (kw : List (Str × Value)) :
    Env0 P w K mg base (A.under (.builtin "type.__call__" ⟨.ref C :: us, kw⟩)) outer s H := ⟨by first | exact e.frames | (simpa [Around.under, Code.envs, Code.isFrame, pushEnvs] using e.frames), e.mod, e.bs, e.bsz, e.funs, e.frf, e.hok, e.bare⟩
section
variable {X : Cx} {pins : List (Addr × Obj)} {σ : St} {H : Hp} {s s' : Shared}
theorem Inv.env0 (I : Inv X pins σ H s) : Env0 X.prog X.w X.K X.mg X.base X.A X.stack s H :=
  ⟨I.ok.frames, I.ok.mod, I.bs, Nat.le_trans I.ok.bsz I.sz, I.stack, I.stkFree, I.hok, I.bare⟩
theorem Inv.after {Q : VK} {u : Value} (I : Inv X pins σ H s) (h : CE X.stack X.prog X.w H s Q u s') : EP X pins σ Q u s' := by
  obtain ⟨v, H', os, bare, un, hok, r, q⟩ := h
  obtain ⟨hh, g, d, t, os'⟩ := s'
  obtain rfl : os' = s.os := os
  exact ⟨v, H', I.call (h' := hh) (g' := g) (d' := d) (t' := t) (ch := []) un hok bare (fun b z => absurd z (by simp)), r, q⟩
end
noncomputable def tCall (sp : Sp) (dvs : List V) (E : XK) (t : TA) : TE := fun σ H Q => t σ H fun vs H1 => sp (vs ++ dvs) H1 Q E
noncomputable def Binds (K : PySem.W.Frag) (fd : FuncData) (ps : List Str) (ds : List Value) : Prop :=
  ∀ (s : Shared) (us : List Value), K.In s.heap → (us ++ ds).length = ps.length → BindsTo s fd ⟨us, []⟩ (ps.zip (us ++ ds))
theorem Binds.all {K : PySem.W.Frag} {fd : FuncData} {ps : List Str} (h : ∀ us : List Value, us.length = ps.length → bindArgs fd ⟨us, []⟩ = pure (ps.zip us)) : Binds K fd ps [] := fun s us _ hl => by
  rw [List.append_nil] at hl ⊢
  exact .of_eq (h us hl)
noncomputable def Passes (CX : CXT) (X : Cx) (E : XK) : Prop := ∀ (pins : List (Addr × Obj)) (σ : St) (H : Hp) (s : Shared) (e : Value) (s' : Shared), Inv X pins σ H s → CX X.stack H s E e s' → X.xe e s'
section
variable {X : Cx} {CX : CXT} {k : Nat} {f C : Addr} {fd : FuncData} {ps : List Str} {sp : Sp} {dvs : List V} {ds : List Value} {E : XK} {x m : Str} {p pos apos : Pos} {e o : Expr} {es : List Expr} {ta : TE} {t : TA}
theorem run_fn {pins : List (Addr × Obj)} {σ : St} {H : Hp} {s : Shared} {Q : VK} {us : List Value} {vs : List V} (F : FnOk X.prog X.w X.K X.mg X.base CX k f fd ps sp) (hr : Room k X.A) (hb : Binds X.K fd ps ds) (hd : Vals dvs ds) (hx : Passes CX X E)
    (I : Inv X pins σ H s) (r : Vals vs us) (h : sp (vs ++ dvs) H Q E) : wpAny (model X.prog X.w) X.A (call (.ref f) us) (EP X pins σ Q) X.xe s := by
  have r2 : Vals (vs ++ dvs) (us ++ ds) := r.append hd
  have hl : (us ++ ds).length = ps.length := by rw [← r2.length]; exact F.len _ _ _ _ h
  refine wpAny_call (codeAny_mono (F.run X.A X.stack s H ⟨us, []⟩ (us ++ ds) (vs ++ dvs) Q E hr I.env0 (hb s us I.kIn hl) r2 h) fun r s' hq => ?_)
  cases r with
  | error e => exact hx pins σ H s e s' I hq
  | ok fl =>
    cases fl with
    | ret u => exact I.after hq
    | next => exact False.elim hq
    | brk => exact False.elim hq
    | cont => exact False.elim hq
theorem pe_call (F : FnOk X.prog X.w X.K X.mg X.base CX k f fd ps sp) (hr : Room k X.A) (hg : Gl X x) (hm : X.mg x = some (.ref f)) (hk : PySem.W.keepIn X.K (.ref f) = true) (hb : Binds X.K fd ps ds) (hd : Vals dvs ds) (hx : Passes CX X E)
    (ha : PA X (e :: es) t) (hdb : (x == ("__debug__" : Str)) = false := by decide) (he : starEach (e :: es) X.env = (false, eval e X.env) :: starEach es X.env := by rfl) (hpl : (backTo pos (starEach es X.env)).any (·.1) = false := by rfl) :
    PE X (.Call (.Name x p) (e :: es) [] pos) (tCall sp dvs E t) := by
  intro pins s σ H Q I h
  refine wpAny_Call_Name_kw (ld_glob I hg hm ?_ hdb)
  refine PySem.W.callWith_K (h₀ := X.base) I.ok.mod.kin hk (thn (ha pos pins s σ H _ I h) fun us s1 ⟨vs, H1, I1, r, q⟩ => ⟨I1.kIn, ?_⟩) he hpl
  exact run_fn F hr hb hd hx I1 r q
end
section
variable {X : Cx} {CX : CXT} {k : Nat} {f C : Addr} {fd : FuncData} {ps ks : List Str} {sp : Sp} {E : XK} {x m : Str} {p pos apos kpos : Pos} {e o : Expr} {es : List Expr} {kws : List Keyword} {te ta : TE} {t tk : TA} {nm : Option Str}
variable {g : List Value → List Value → List Value} {gV : List V → List V → List V}
end
structure FnScope (N P : List Str) (sc : Scope) : Prop where
  kind : sc.kind = .function
  co : sc.isCoroutine = false
  gen : sc.isGenerator = false
  nd : N.Nodup
  pre : N.take P.length = P
  par : ∀ x ∈ P, sc.names.lookup x = some .local ∨ sc.names.lookup x = some .cell
  nofree : ∀ y ∈ sc.names, y.2 ≠ .free
theorem bindL_out {kindOf : Str → Option NameKind} {x : Str} : ∀ {binds : List (Str × Value)} {m : Str → Option Value}, (∀ v, (x, v) ∉ binds) → bindL kindOf binds m x = m x
  | [], _, _ => rfl
  | (n, v) :: r, m, h => by
    unfold bindL
    rw [bindL_out fun w hw => h w (List.mem_cons_of_mem _ hw)]
    split
    · have : x ≠ n := by rintro rfl; exact h v List.mem_cons_self
      simp [this]
    · rfl
theorem bindC_out {kindOf : Str → Option NameKind} {x : Str} : ∀ {binds : List (Str × Value)} {m : Str → Option Value}, (∀ v, (x, v) ∉ binds) → bindC kindOf binds m x = m x
  | [], _, _ => rfl
  | (n, v) :: r, m, h => by
    unfold bindC
    rw [bindC_out fun w hw => h w (List.mem_cons_of_mem _ hw)]
    split
    · rfl
    · have : x ≠ n := by rintro rfl; exact h v List.mem_cons_self
      simp [this]
theorem bindL_get {kindOf : Str → Option NameKind} {x : Str} {v : Value} : ∀ {P : List Str} {vs : List Value} {i : Nat} {m : Str → Option Value}, P.Nodup → P[i]? = some x → vs[i]? = some v → kindOf x = some .local →
    bindL kindOf (P.zip vs) m x = some v
  | [], _, _, _, _, h, _, _ => by simp at h
  | _ :: _, [], _, _, _, _, h, _ => by simp at h
  | p :: P, w :: vs, 0, m, nd, h1, h2, hk => by
    simp at h1 h2; subst h1; subst h2
    show bindL kindOf ((p, w) :: P.zip vs) m p = _
    unfold bindL
    rw [bindL_out fun v hv => (List.nodup_cons.mp nd).1 (List.of_mem_zip hv).1, if_pos hk]
    simp
  | p :: P, w :: vs, i + 1, m, nd, h1, h2, hk => by
    show bindL kindOf ((p, w) :: P.zip vs) m x = _
    unfold bindL
    exact bindL_get (i := i) (List.nodup_cons.mp nd).2 (by simpa using h1) (by simpa using h2) hk
theorem bindC_get {kindOf : Str → Option NameKind} {x : Str} {v : Value} : ∀ {P : List Str} {vs : List Value} {i : Nat} {m : Str → Option Value}, P.Nodup → P[i]? = some x → vs[i]? = some v → kindOf x ≠ some .local →
    bindC kindOf (P.zip vs) m x = some v
  | [], _, _, _, _, h, _, _ => by simp at h
  | _ :: _, [], _, _, _, _, h, _ => by simp at h
  | p :: P, w :: vs, 0, m, nd, h1, h2, hk => by
    simp at h1 h2; subst h1; subst h2
    show bindC kindOf ((p, w) :: P.zip vs) m p = _
    unfold bindC
    rw [bindC_out fun v hv => (List.nodup_cons.mp nd).1 (List.of_mem_zip hv).1, if_neg hk]
    simp
  | p :: P, w :: vs, i + 1, m, nd, h1, h2, hk => by
    show bindC kindOf ((p, w) :: P.zip vs) m x = _
    unfold bindC
    exact bindC_get (i := i) (List.nodup_cons.mp nd).2 (by simpa using h1) (by simpa using h2) hk
noncomputable def start (N : List Str) (vs : List V) : St := vs.map some ++ List.replicate (N.length - vs.length) none
noncomputable def cxOf (CX : CXT) (P : Program) (w : World) (K : PySem.W.Frag) (mg : Str → Option Value) (base : Heap) (N : List Str) (qual : Str) (scope : Scope) (f : Addr) (cd : Value) (A : Around) (outer : List Env) (s : Shared) (H : Hp) (E : XK) : Cx where
  prog := P
  w := w
  K := K
  mg := mg
  base := base
  A := A.deeper (envOfC qual scope s.heap.objs.size f cd)
  N := N
  s₀ := s
  H₀ := H
  env := envOfC qual scope s.heap.objs.size f cd
  outer := outer
  stack := envOfC qual scope s.heap.objs.size f cd :: outer
  ex := []
  calm := true
  fn := fun _ => true
  pn := []
  xe := fun e s' => wpAny (model P w) (A.deeper (envOfC qual scope s.heap.objs.size f cd)) (leaving (envOfC qual scope s.heap.objs.size f cd) e) (fun _ s'' => CX outer H s E e s'') (fun e' s'' => CX outer H s E e' s'') s'
theorem cell_has {sc : Scope} {n : Nat} {x : Str} (h : sc.names.lookup x = some .cell) : ∃ c, (cellsFrom n sc.names []).lookup x = some c := by
  have q := PySem.W.cellsFrom_some sc.names n [] (.inl h)
  exact Option.isSome_iff_exists.mp q
theorem inv_start {CX : CXT} {P : Program} {w : World} {K : PySem.W.Frag} {mg : Str → Option Value} {base : Heap} {N ps : List Str} {qual : Str} {scope : Scope} {f : Addr} {cd : Value} {A : Around} {outer : List Env} {s s1 : Shared} {H : Hp} {E : XK} {us : List Value} {vs : List V}
    (S : FnScope N ps scope) (hd : A.handled = none) (e0 : Env0 P w K mg base A outer s H) (hl : vs.length = ps.length) (r : Vals vs us)
    (x : InCallC s s.heap.objs.size (bindL (envOfC qual scope s.heap.objs.size f cd).kindOf (ps.zip us) fun _ => none) (cellsFrom (s.heap.objs.size + 1) scope.names []) (bindC (envOfC qual scope s.heap.objs.size f cd).kindOf (ps.zip us) fun _ => none) s1) :
    Inv (cxOf CX P w K mg base N qual scope f cd A outer s H E) [] (start N vs) H s1 := by
  have hpl : ps.length ≤ N.length := by have := congrArg List.length S.pre; rw [List.length_take] at this; omega
  obtain ⟨h1, tk, rfl, hk⟩ := x.done
  have noA : ∀ b : Addr, b ∉ (cxOf CX P w K mg base N qual scope f cd A outer s H E).ex := fun b z => absurd (show b ∈ ([] : List Addr) from z) (by simp)
  refine ⟨⟨e0.mod, S.kind, rfl, rfl, Nat.le_refl _, fun y z c h1 h2 => ?_, fun y hy => ?_, fun y c _ h => ?_, fun _ => hd, Around.frames_deeper e0.frames, .inr ⟨rfl, rfl⟩, fun b z => absurd z (noA b), e0.bs, e0.bsz, fun b _ _ => noA b, fun b z => absurd z (noA b), e0.funs, e0.frf⟩,
    rfl, e0.bare, Un.kept hk, ⟨_, x.toInCall.ns, fun i y v h1 h2 h3 => ?_⟩, fun y c h => ⟨_, x.cell y c h⟩, e0.hok.fresh (Nat.le_refl _), fun y c h => ?_, fun p hp => absurd (show p ∈ ([] : List (Addr × Obj)) from hp) (by simp), e0.hok.kept hk, ?_⟩
  · exact name_of_addr x.apart (PySem.mem_of_lookup h1) (PySem.mem_of_lookup h2)
  · have hy : scope.names.lookup y = some .cell ∨ scope.names.lookup y = some .free := hy
    rcases hy with hy | hy
    · exact cell_has hy
    · exact absurd rfl (S.nofree _ (PySem.mem_of_lookup hy))
  · exact Nat.le_of_lt (x.above y c (PySem.mem_of_lookup h))
  · have hi : i < vs.length := by
      unfold start at h2
      by_cases hi : i < vs.length
      · exact hi
      · rw [List.getElem?_append_right (by simpa using hi)] at h2
        rw [List.getElem?_replicate] at h2
        split at h2 <;> cases h2
    have ha : vs[i]? = some v := by
      unfold start at h2
      rw [List.getElem?_append_left (by simpa using hi), List.getElem?_map] at h2
      cases e : vs[i]? with
      | none => rw [e] at h2; cases h2
      | some a => rw [e] at h2; cases h2; rfl
    obtain ⟨u, hu, rv⟩ := r.get ha
    have hp : ps[i]? = some y := by
      rw [← S.pre, List.getElem?_take_of_lt (by omega)]; exact h1
    have ndP : ps.Nodup := by rw [← S.pre]; exact S.nd.sublist (List.take_sublist _ _)
    refine ⟨u, rv, ?_⟩
    rcases S.par y (List.mem_of_getElem? hp) with k | k
    · exact .inl ⟨k, bindL_get ndP hp hu k⟩
    · obtain ⟨c, e⟩ := cell_has (n := s.heap.objs.size + 1) k
      refine .inr ⟨.inl k, c, e, ?_⟩
      have q := x.cell y c e
      rw [bindC_get ndP hp hu (by show scope.names.lookup y ≠ _; rw [k]; decide)] at q
      exact q
  · exact e0.hok.fresh (Nat.le_of_lt (x.above y c (PySem.mem_of_lookup h)))
  · unfold start
    show _ = N.length
    rw [List.length_append, List.length_map, List.length_replicate]
    omega
theorem fn_of {CX : CXT} {P : Program} {w : World} {K : PySem.W.Frag} {mg : Str → Option Value} {base : Heap} {k : Nat} {f : Addr} {name qual : Str} {params : Arguments} {body : List Stmt} {scope : Scope} {dV kV doc pm cdv ct oc : Value} {an od : Option Addr}
    {osl : Array (Option Value)} {N ps : List Str} {sp : Sp} (lk : K.lookup f = some ⟨oc, od, .func (PySem.W.fnOf name qual params body scope dV kV doc pm an cdv ct), osl⟩) (hcd : PySem.W.codeIn K cdv qual = true) (S : FnScope N ps scope)
    (len : ∀ vs H Q E, sp vs H Q E → vs.length = ps.length)
    (hbody : ∀ (A : Around) (outer : List Env) (s : Shared) (H : Hp) (vs : List V) (Q : VK) (E : XK), Room k (A.deeper (envOfC qual scope s.heap.objs.size f cdv)) → sp vs H Q E →
      ∃ t, PSs (cxOf CX P w K mg base N qual scope f cdv A outer s H E) body t ∧ t { nx := fun _ H' => Q .non H', rt := Q } (start N vs) H) :
    FnOk P w K mg base CX (k + 1) f (PySem.W.fnOf name qual params body scope dV kV doc pm an cdv ct) ps sp := by
  refine ⟨len, fun A outer s H args us vs Q E hr e0 hb r hsp => ?_⟩
  have hl := len _ _ _ _ hsp
  have KX : K.In s.heap := e0.mod.kin.keeps fun b o e => (e0.bs b o e).1
  have lim : s.heap.NoLimit := e0.mod.nolimit.keeps fun b o e => (e0.bs b o e).1
  have hkind : ∀ y ∈ ps.zip us, scope.names.lookup y.1 = some .local ∨ (scope.names.lookup y.1 = some .cell ∧ ((cellsFrom (s.heap.objs.size + 1) scope.names []).lookup y.1).isSome = true) := fun ⟨n, v⟩ hy => by
    rcases S.par n (List.of_mem_zip hy).1 with q | q
    · exact .inl q
    · exact .inr ⟨q, PySem.W.cellsFrom_some _ _ _ (.inl q)⟩
  refine codeAny_call_function hr.depth (KX _ _ lk) rfl S.co S.gen rfl (PySem.W.codeRec_of KX hcd) (hb _ _ _ _ ?_)
  refine wpAny_newFunctionEnv_cells S.kind hkind fun env he s1 x => ?_
  subst he
  refine ⟨lim.keeps x.toInCall.keep, codeAny_func ?_⟩
  obtain ⟨t, ht, hq⟩ := hbody A outer s H vs Q E (hr.deeper _) hsp
  have I : Inv (cxOf CX P w K mg base N qual scope f cdv A outer s H E) [] (start N vs) H s1 := inv_start S hr.hd e0 hl r x
  refine wpAny_mono (ht [] s1 (start N vs) H _ I hq) (fun fl s' hs => ?_) fun e s' hs => hs
  have fin : ∀ {σ' : St} {H' : Hp} {v : V} {u : Value}, Inv (cxOf CX P w K mg base N qual scope f cdv A outer s H E) [] σ' H' s' → RelV v u → Q v H' → CE outer P w H s Q u s' :=
    fun {σ' H' v u} J rv q => ⟨v, H', J.os, J.bare, J.base, J.hok, rv, q⟩
  cases fl with
  | ret u =>
    obtain ⟨v, σ', H', J, rv, q⟩ := hs
    exact fin J rv q
  | next =>
    obtain ⟨σ', H', J, q⟩ := hs
    exact fin (v := V.non) (u := Value.none) J rfl q
  | brk =>
    obtain ⟨_, _, _, q⟩ := hs
    exact False.elim q
  | cont =>
    obtain ⟨_, _, _, q⟩ := hs
    exact False.elim q
end L2
namespace L2
open PySem PySem.Spec PyProof.Rows
section
variable {X : Cx} {x : Str} {p pos : Pos} {e : Expr} {es : List Expr} {t : TA} {id T : String} {r : List V → Hp → VK → Prop}
noncomputable def tCB (r : List V → Hp → VK → Prop) (t : TA) : TE := fun σ H Q => t σ H fun vs H1 => r vs H1 Q
theorem pe_callB (hc : CallR X (.builtin id) r) (hg : Gl X x) (hm : X.mg x = none) (hv : bootBuiltins x = some (.builtin id)) (ha : PA X (e :: es) t) (hn : x ≠ "__name__" := by decide) (hdb : (x == ("__debug__" : Str)) = false := by decide)
    (he : starEach (e :: es) X.env = (false, eval e X.env) :: starEach es X.env := by rfl) (hpl : (backTo pos (starEach es X.env)).any (·.1) = false := by rfl) : PE X (.Call (.Name x p) (e :: es) [] pos) (tCB r t) := by
  intro pins s σ H Q I h
  refine wpAny_Call_Name_kw (ld_blt I hg hm hv ?_ hn hdb)
  exact PyProof.Rows.callWith_builtin1 (thn (ha pos pins s σ H _ I h) fun us s1 ⟨vs, H1, I1, r1, q1⟩ => hc pins s1 σ H1 vs us Q I1 r1 q1) he hpl
theorem pe_callTy (hc : CallR X (.type T) r) (hg : Gl X x) (hm : X.mg x = none) (hv : bootBuiltins x = some (.type T)) (ha : PA X (e :: es) t) (hn : x ≠ "__name__" := by decide) (hdb : (x == ("__debug__" : Str)) = false := by decide)
    (he : starEach (e :: es) X.env = (false, eval e X.env) :: starEach es X.env := by rfl) (hpl : (backTo pos (starEach es X.env)).any (·.1) = false := by rfl) : PE X (.Call (.Name x p) (e :: es) [] pos) (tCB r t) := by
  intro pins s σ H Q I h
  refine wpAny_Call_Name_kw (ld_blt I hg hm hv ?_ hn hdb)
  exact PyProof.Rows.callWith_type1 (thn (ha pos pins s σ H _ I h) fun us s1 ⟨vs, H1, I1, r1, q1⟩ => hc pins s1 σ H1 vs us Q I1 r1 q1) he hpl
end
end L2
namespace HT
open PySem PyProof.Rows
noncomputable def lexLt : List Int → List Int → Bool
  | [], [] => false
  | [], _ :: _ => true
  | _ :: _, [] => false
  | x :: xs, y :: ys => if x = y then lexLt xs ys else decide (x < y)
theorem lexLt_cons (x y : Int) (xs ys : List Int) : lexLt (x :: xs) (y :: ys) = if x = y then lexLt xs ys else decide (x < y) := rfl
theorem lexLt_nil_nil : lexLt [] [] = false := rfl
theorem lexLt_nil_cons (y : Int) (ys : List Int) : lexLt [] (y :: ys) = true := rfl
theorem lexLt_cons_nil (x : Int) (xs : List Int) : lexLt (x :: xs) [] = false := rfl
theorem eqAt_int (A : Around) (s : Shared) (a : Int) (t : Tok) (c : Int) (u : Tok) : ∃ e, SeqAt.EqAt A s (.int a t) (.int c u) e ∧ (e = true ↔ a = c) :=
  ⟨(a == c), SeqAt.EqAt.int_int a t c u, by simp⟩
theorem rcLt_int (A : Around) (s : Shared) (a : Int) (t : Tok) (c : Int) (u : Tok) (prog : Program) (w : World) (E : Value → Shared → Prop) (Q : Value → Shared → Prop) (h : Q (.bool (decide (a < c))) s) :
    wpAny (model prog w) A (richCompare .Lt (.int a t) (.int c u)) Q E s :=
  (PyProof.Rows.lt_int h : wpAny (model prog w) A (compareOp .Lt (.int a t) (.int c u)) Q E s)
section
open PySem.SeqAt
open PySem.AutoSeq1 (wpAny_loadPart')
open PySem.MeetsSeq PySem.MeetsSeq2 PySem.MeetsSeq3
theorem tuple_lt_ints (l b : Addr) (items items2 : Array Value) (n n2 : Nat) (dd dd2 : Option Addr) (sl sl2 : Array (Option Value)) (ns ms : List Int) (hi : IntsAre items.toList ns) (hj : IntsAre items2.toList ms) :
    Meets (Builtin.«tuple.__lt__» ⟨[.ref l, .ref b], []⟩)
      (fun _ R s => s.heap.get? l = some { cls := .type "tuple", dict := dd, data := .seq items n, slots := sl } ∧ s.heap.get? b = some { cls := .type "tuple", dict := dd2, data := .seq items2 n2, slots := sl2 } ∧
        R (.ok (.ret (.bool (lexLt ns ms)))) s) :=
  .of_wp fun prog w A R s h => by
    obtain ⟨hp, g, d, tk, os⟩ := s; obtain ⟨hl, hb, h⟩ := h
    have f2 := AutoSeq1.sub_tuple_tuple
    have z1 : items.size = ns.length := by rw [← hi.length]; simp
    have z2 : items2.size = ms.length := by rw [← hj.length]; simp
    wp_walk using wpAny_loadPart' hl, wpAny_loadPart' hb, wpAny_forIn_list _ (fun rest b s' => b.1 = none ∧ s' = ⟨hp, g, d, tk, os⟩ ∧ ∃ (vs ws : List Value) (ns' ms' : List Int), rest = vs.zip ws ∧
      IntsAre vs ns' ∧ IntsAre ws ms' ∧ ns'.length + items2.size = ms'.length + items.size ∧ R (.ok (.ret (.bool (lexLt ns' ms')))) ⟨hp, g, d, tk, os⟩) _
    case turn =>
      rintro ⟨y, x⟩ rest b s' ⟨hb', rfl, vs, ws, ns', ms', hz, hvi, hwi, hlen, hR⟩
      cases hvi with
      | nil => rw [List.zip_nil_left] at hz; cases hz
      | cons a t hvi' =>
        cases hwi with
        | nil => rw [List.zip_nil_right] at hz; cases hz
        | cons c u hwi' =>
          rw [List.zip_cons_cons] at hz
          injection hz with hyx hrest
          injection hyx with hy hx
          subst hy hx
          rw [lexLt_cons] at hR
          simp only [List.length_cons] at hlen
          obtain ⟨e, he, hiff⟩ := eqAt_int A.in1 ⟨hp, g, d, tk, os⟩ a t c u
          refine wpAny_bind (he prog w _ _ ?_)
          cases e with
          | true =>
            rw [if_pos (hiff.mp rfl)] at hR
            wp_walk
            exact ⟨rfl, rfl, _, _, _, _, hrest, hvi', hwi', by omega, hR⟩
          | false =>
            rw [if_neg (fun q => absurd (hiff.mpr q) Bool.false_ne_true)] at hR
            have hri := rcLt_int A.in1 ⟨hp, g, d, tk, os⟩ a t c u prog w
            wp_walk using hri
            exact ⟨_, rfl, by simpa using hR⟩
    case fin =>
      rintro ⟨b1, b2⟩ s' ⟨hb', rfl, vs, ws, ns', ms', hz, hvi, hwi, hlen, hR⟩
      simp only at hb'
      subst hb'
      have hv : lexLt ns' ms' = decide (items.size < items2.size) := by
        cases hvi with
        | nil =>
          cases hwi with
          | nil =>
            simp only [List.length_nil] at hlen
            rw [lexLt_nil_nil]
            exact (decide_eq_false (by omega)).symm
          | cons c u hw =>
            simp only [List.length_nil, List.length_cons] at hlen
            rw [lexLt_nil_cons]
            exact (decide_eq_true (by omega)).symm
        | cons a t hv =>
          cases hwi with
          | nil =>
            simp only [List.length_nil, List.length_cons] at hlen
            rw [lexLt_cons_nil]
            exact (decide_eq_false (by omega)).symm
          | cons c u hw =>
            rw [List.zip_cons_cons] at hz
            cases hz
      rw [hv] at hR
      wp_walk
      exact ⟨_, rfl, by simpa [Builtin.Tuple.tupleCompareSizes] using hR⟩
    case h =>
      exact ⟨rfl, rfl, items.toList, items2.toList, ns, ms, rfl, hi, hj, by omega, h⟩
end
section
variable {prog : Program} {w : World} {A : Around} {E : Value → Shared → Prop} {s : Shared}
theorem lt_tupInts {l b : Addr} {items items2 : Array Value} {ns ms : List Int} {Q : Value → Shared → Prop} (hl : IsTup s.heap l items) (hb : IsTup s.heap b items2) (hi : IntsAre items.toList ns) (hj : IntsAre items2.toList ms)
    (hu : A.units < cLine) (h : Q (.bool (lexLt ns ms)) s) : wpAny (model prog w) A (compareOp .Lt (.ref l) (.ref b)) Q E s := by
  obtain ⟨⟨cls, dd, data, sl⟩, ho, hc, n, hd⟩ := id hl
  obtain ⟨⟨cls2, dd2, data2, sl2⟩, ho2, hc2, n2, hd2⟩ := id hb
  simp only at hc hd hc2 hd2
  subst hc hd hc2 hd2
  exact richCompare_meets_room (op := .Lt) ⟨_, ho, rfl⟩ ⟨_, ho2, rfl⟩ PySem.F.slot_tuple_lt PySem.F.entry_tuple_lt (PySem.F.args_tuple_lt_2 _ _) (tuple_lt_ints l b items items2 n n2 dd dd2 sl sl2 ns ms hi hj)
    ⟨ho, ho2, show Value.bool (lexLt ns ms) ≠ Value.notImplemented ∧ Q (.bool (lexLt ns ms)) s from ⟨(fun x => nomatch x), h⟩⟩ hu
theorem cat_tup {t b : Addr} {vs ws : List Value} {Q : Value → Shared → Prop} (ht : IsTup s.heap t vs.toArray) (hb : IsTup s.heap b ws.toArray) (hv : vs ≠ [])
    (h1 : ws = [] → Q (.ref t) s) (h2 : ws ≠ [] → Q (.ref s.heap.objs.size) { s with heap := s.heap.push { cls := .type "tuple", data := .seq (vs ++ ws).toArray } })
    (hsz : vs.length + ws.length ≤ sizeLine) : wpAny (model prog w) A (binaryOp .Add (.ref t) (.ref b)) Q E s := by
  obtain ⟨⟨cls, dd, data, sl⟩, ho, hc, n, hd⟩ := id ht
  obtain ⟨⟨cls2, dd2, data2, sl2⟩, ho2, hc2, n2, hd2⟩ := id hb
  simp only at hc hd hc2 hd2
  subst hc hd hc2 hd2
  have e : vs.toArray ++ ws.toArray = (vs ++ ws).toArray := by simp
  by_cases hw : ws = []
  · exact concat_meets ⟨_, ho, rfl⟩ ⟨_, ho2, rfl⟩ noFill_tuple_add seq_tuple_add PySem.F.slot_tuple_add PySem.F.entry_tuple_add (PySem.F.args_tuple_add_2 _ _)
      (tuple_addW1 t b vs.toArray ws.toArray n n2 dd dd2 sl sl2 (by simpa using hv) (by simp [hw])) ⟨ho, ho2, h1 hw⟩
  · refine concat_meets ⟨_, ho, rfl⟩ ⟨_, ho2, rfl⟩ noFill_tuple_add seq_tuple_add PySem.F.slot_tuple_add PySem.F.entry_tuple_add (PySem.F.args_tuple_add_2 _ _)
      (tuple_addW2 t b vs.toArray ws.toArray n n2 dd dd2 sl sl2 (by simpa using hv) (by simpa using hw) (by rw [List.size_toArray, List.size_toArray]; exact hsz)) ⟨ho, ho2, ?_⟩
    rw [e]
    exact h2 hw
noncomputable def sIx (n d : Nat) : Option Int → Nat
  | none => d
  | some v => if v < 0 then (v + (n : Int)).toNat else min v.toNat n
theorem sIx_nat (n d k : Nat) : sIx n d (some (k : Int)) = min k n := by
  show (if (k : Int) < 0 then ((k : Int) + (n : Int)).toNat else min (k : Int).toNat n) = min k n
  rw [if_neg (by omega), Int.toNat_natCast]
theorem sIx_le (n d : Nat) (hd : d ≤ n) (o : Option Int) : sIx n d o ≤ n := by
  cases o with
  | none => exact hd
  | some v =>
    show (if v < 0 then (v + (n : Int)).toNat else min v.toNat n) ≤ n
    by_cases hv : v < 0
    · rw [if_pos hv]; omega
    · rw [if_neg hv]; exact Nat.min_le_right _ _
theorem clip_eq (v : Int) (n d : Nat) : (if v < 0 then max (v + (n : Int)) 0 else min v (n : Int)) = ((sIx n d (some v) : Nat) : Int) := by
  show (if v < 0 then max (v + (n : Int)) 0 else min v (n : Int)) = (((if v < 0 then (v + (n : Int)).toNat else min v.toNat n) : Nat) : Int)
  by_cases hv : v < 0
  · simp only [if_pos hv]; omega
  · simp only [if_neg hv]; omega
theorem adjust_gen (lo hi : Option Int) (n : Nat) : Builtin.Slice.sliceAdjust lo hi 1 (n : Int) = (((sIx n 0 lo : Nat) : Int), ((sIx n n hi : Nat) : Int)) := by
  have h1 : ¬ ((1 : Int) < 0) := by omega
  unfold Builtin.Slice.sliceAdjust
  simp only [h1, if_false]
  refine Prod.ext ?_ ?_
  · cases lo with
    | none => rfl
    | some v => exact clip_eq v n 0
  · cases hi with
    | none => rfl
    | some v => exact clip_eq v n n
theorem places_gen (i j : Nat) : Builtin.Slice.slicePlaces (i : Int) (j : Int) 1 = j - i := by
  unfold Builtin.Slice.slicePlaces
  have h1 : (1 : Int) > 0 := by omega
  simp only [h1, if_true, Int.ediv_one]
  split <;> omega
theorem slicePart_ {v : Value} {o : Option Int} {Q : Option Int → Shared → Prop} (p : IsPart v o) (h : Q o s) : wpAny (model prog w) A (Builtin.Slice.slicePartIndex v) Q E s := by
  cases p with
  | none => exact slicePart_none h
  | int i t => exact slicePart_int h
theorem sliceApplied_gen {sl : Addr} {vl vu : Value} {lo hi : Option Int} {n : Nat} {Q : Int × Int × Nat → Shared → Prop} (hs : s.heap.IsSliceOf sl vl vu .none) (pl : IsPart vl lo) (pu : IsPart vu hi)
    (h : Q (((sIx n 0 lo : Nat) : Int), 1, sIx n n hi - sIx n 0 lo) s) : wpAny (model prog w) A (Builtin.Slice.sliceApplied (.ref sl) (pure (n : Int))) Q E s := by
  obtain ⟨os, hos, hcs, hds⟩ := id hs
  unfold Builtin.Slice.sliceApplied Builtin.Slice.sliceFields
  refine wpAny_bind (wpAny_bind (wpAny_field hos hds (x := vl) rfl (wpAny_bind (wpAny_field hos hds (x := vu) rfl (wpAny_bind (wpAny_field hos hds (x := .none) rfl (wpAny_pure ?_)))))))
  refine wpAny_bind (slicePart_none ?_)
  show wpAny _ _ (if ((1 : Int) == 0) = true then _ else _) _ _ s
  rw [if_neg (by decide)]
  refine wpAny_bind (slicePart_ pl (wpAny_bind (slicePart_ pu (wpAny_bind (wpAny_pure ?_)))))
  show wpAny _ _ (match Builtin.Slice.sliceAdjust lo hi 1 (n : Int) with | (lo, hi) => pure (lo, (1 : Int), Builtin.Slice.slicePlaces lo hi 1)) _ _ s
  rw [adjust_gen lo hi n]
  show wpAny _ _ (pure (((sIx n 0 lo : Nat) : Int), (1 : Int), Builtin.Slice.slicePlaces ((sIx n 0 lo : Nat) : Int) ((sIx n n hi : Nat) : Int) 1)) _ _ s
  rw [places_gen]
  exact wpAny_pure h
theorem pick_gen (xs : Array Value) (i k : Nat) : ((List.range k).filterMap fun (m : Nat) => xs[((i : Int) + (m : Int) * 1).toNat]?).toArray = ((xs.toList.drop i).take k).toArray := by
  have e : (fun (m : Nat) => xs[((i : Int) + (m : Int) * 1).toNat]?) = fun m => xs[i + m]? := by
    funext m
    have : ((i : Int) + (m : Int) * 1).toNat = i + m := by omega
    rw [this]
  rw [e]
  have := pick_run xs i k
  rw [List.filterMap_map] at this
  have e2 : ((fun x => xs[x]?) ∘ fun x => i + x) = fun m => xs[i + m]? := rfl
  rw [e2] at this
  rw [this]
theorem getItem_tuple_cut {t sl : Addr} {items : Array Value} {vl vu : Value} {lo hi : Option Int} {Q : Value → Shared → Prop} (ht : IsTup s.heap t items) (hs : s.heap.IsSliceOf sl vl vu .none) (pl : IsPart vl lo) (pu : IsPart vu hi)
    (hw : ¬ (sIx items.size 0 lo = 0 ∧ sIx items.size items.size hi = items.size))
    (h : Q (.ref s.heap.objs.size) { s with heap := s.heap.push { cls := .type "tuple", data := .seq ((items.toList.drop (sIx items.size 0 lo)).take (sIx items.size items.size hi - sIx items.size 0 lo)).toArray } })
    (hsz : items.size ≤ sizeLine) : wpAny (model prog w) A (getItem (.ref t) (.ref sl)) Q E s := by
  have htake : sizeOk (.seq ((items.toList.drop (sIx items.size 0 lo)).take (sIx items.size items.size hi - sIx items.size 0 lo)).toArray) := by
    show ((items.toList.drop (sIx items.size 0 lo)).take (sIx items.size items.size hi - sIx items.size 0 lo)).toArray.size ≤ sizeLine
    rw [List.size_toArray, List.length_take, List.length_drop, Array.length_toList]
    omega
  have hj : sIx items.size items.size hi ≤ items.size := sIx_le _ _ (Nat.le_refl _) hi
  obtain ⟨os, hos, hcs, hds⟩ := id hs
  have hTs : s.TypeIs (.ref sl) "slice" := ⟨os, hos, hcs⟩
  unfold getItem
  try with_reducible refine wpAny_holding ?_
  first | refine wpAny_bind (wpAny_pure ?_) | skip
  refine wpAny_bind (wpAny_sequenceKey ht.typeIs (by decide) ?_)
  refine wpAny_bind (wpAny_callSpecial?_slot (name := Str.ofString "__getitem__") ht.typeIs PyProof.Rows.slot_tuple_getitem
    (wpAny_call_entry PyProof.Rows.slot_tuple_getitem ht.typeIs entry_tuple_getitem ?_ (args_tuple_getitem _ _)))
  show wpAny _ _ (Builtin.Tuple.tupleItemsOf (.ref t) >>= _) _ _ s
  refine wpAny_bind (tupleItemsOf_ ht ?_)
  refine wpAny_bind (wpAny_typeOf hTs ?_)
  rw [if_pos (by decide)]
  refine wpAny_bind (sliceApplied_gen hs pl pu ?_)
  have hno : ¬ ((((sIx items.size 0 lo : Nat) : Int) == 0 && (1 : Int) == 1 && (sIx items.size items.size hi - sIx items.size 0 lo) == items.size) = true) := by
    intro q
    rw [Bool.and_eq_true, Bool.and_eq_true] at q
    have q1 : ((sIx items.size 0 lo : Nat) : Int) = 0 := eq_of_beq q.1.1
    have q2 : sIx items.size items.size hi - sIx items.size 0 lo = items.size := eq_of_beq q.2
    exact hw ⟨by omega, by omega⟩
  show wpAny _ _ (if (((sIx items.size 0 lo : Nat) : Int) == 0 && (1 : Int) == 1 && (sIx items.size items.size hi - sIx items.size 0 lo) == items.size) = true then _ else _) _ _ s
  rw [if_neg hno, pick_gen]
  first
    | exact wpAny_bind (m := Builtin.Tuple.tupleExact _) (wpAny_newObj_type (wpAny_pure ⟨_, rfl, wpAny_pure h⟩) htake)
    | exact wpAny_bind (m := Builtin.Tuple.tupleExact _) (wpAny_newObj_type (wpAny_bind (wpAny_pure (wpAny_pure ⟨_, rfl, wpAny_pure h⟩))) htake)
    | exact wpAny_bind (wpAny_bind (m := Builtin.Tuple.tupleExact _) (wpAny_newObj_type (wpAny_pure (wpAny_pure ⟨_, rfl, wpAny_pure h⟩)) htake))
    | exact wpAny_bind (wpAny_bind (m := Builtin.Tuple.tupleExact _) (wpAny_newObj_type (wpAny_pure ⟨_, rfl, wpAny_pure h⟩) htake))
end
end HT
namespace L2
open PySem PySem.Spec PyProof.Rows
noncomputable abbrev TO := St → Hp → (Option Int → Hp → Prop) → Prop
noncomputable def PO (X : Cx) (e : Option Expr) (t : TO) : Prop :=
  ∀ (pins : List (Addr × Obj)) (s : Shared) (σ : St) (H : Hp) (Q : Option Int → Hp → Prop), Inv X pins σ H s → t σ H Q →
    wpAny (model X.prog X.w) X.A (evalPart e X.env) (fun u s' => ∃ o H', Inv X pins σ H' s' ∧ IsPart u o ∧ Q o H') X.xe s
noncomputable def tNoPart : TO := fun _ H Q => Q none H
noncomputable def tPart (t : TE) : TO := fun σ H Q => t σ H fun x H1 => ∃ i, x = .int i ∧ Q (some i) H1
theorem intsAre_of {ns : List Int} : ∀ {us : List Value}, Vals (ns.map V.int) us → IntsAre us ns := by
  induction ns with
  | nil => intro us r; rw [List.map_nil] at r; cases r; exact .nil
  | cons n ns ih =>
    intro us r
    rw [List.map_cons] at r
    cases r with
    | cons r1 r2 =>
      obtain ⟨t, e⟩ := r1
      subst e
      exact .cons n t (ih r2)
section
variable {X : Cx} {e : Expr} {te : TE} {lo hi : Option Expr} {tl th : TO} {pos p2 : Pos}
theorem po_none : PO X none tNoPart := by
  intro pins s σ H Q I h
  rw [evalPart_none]
  exact wpAny_pure ⟨none, H, I, .none, h⟩
theorem po_some (h : PE X e te) : PO X (some e) (tPart te) := by
  intro pins s σ H Q I hw
  rw [evalPart_some]
  refine thn (h pins s σ H _ I hw) fun u s1 ⟨x, H1, I1, r1, q1⟩ => ?_
  obtain ⟨i, rfl, q⟩ := q1
  obtain ⟨t, rfl⟩ := r1
  exact ⟨some i, H1, I1, .int i t, q⟩
noncomputable def SlR (X : Cx) (r : V → Option Int → Option Int → Hp → VK → Prop) : Prop :=
  ∀ (pins : List (Addr × Obj)) (s : Shared) (σ : St) (H : Hp) (x : V) (v vl vu : Value) (lo hi : Option Int) (sl : Addr) (Q : VK), Inv X pins σ H s → RelV x v → s.heap.IsSliceOf sl vl vu .none → IsPart vl lo → IsPart vu hi → r x lo hi H Q →
    ∃ T id, typeLookup (.type T) "__getitem__" = pure (some (.builtin id)) ∧ s.TypeIs v T ∧ wpAny (model X.prog X.w) X.A (getItem v (.ref sl)) (EP X pins σ Q) X.xe s
noncomputable def tSl (r : V → Option Int → Option Int → Hp → VK → Prop) (te : TE) (tl th : TO) : TE := fun σ H Q => te σ H fun x H1 => tl σ H1 fun l H2 => th σ H2 fun u H3 => r x l u H3 Q
theorem pe_slice {r : V → Option Int → Option Int → Hp → VK → Prop} (hr : SlR X r) (he : PE X e te) (hl : PO X lo tl) (hu : PO X hi th) : PE X (.Subscript e (.Slice lo hi none p2) pos) (tSl r te tl th) := by
  intro pins s σ H Q I h
  refine Subscript_ (thn (he pins s σ H _ I h) fun v s1 ⟨x, H1, I1, r1, q1⟩ => ?_)
  refine wpAny_Slice (thn (hl pins s1 σ H1 _ I1 q1) fun vl s2 ⟨l, H2, I2, pl, q2⟩ => thn (hu pins s2 σ H2 _ I2 q2) fun vu s3 ⟨u, H3, I3, pu, q3⟩ => ?_)
  rw [evalPart_none]
  refine wpAny_pure ?_
  have I4 : Inv X pins σ H3 { s3 with heap := s3.heap.push { cls := .type "slice", data := .fields #[vl, vu, .none] } } := I3.kept (t' := s3.toks) fun b ob q => Heap.get?_push_of_some _ q
  obtain ⟨T, id, hT, ht, hg⟩ := hr pins { s3 with heap := s3.heap.push { cls := .type "slice", data := .fields #[vl, vu, .none] } } σ H3 x v vl vu l u s3.heap.objs.size Q I4 r1 (Heap.IsSliceOf.new ..) pl pu q3
  show wpAny (model X.prog X.w) X.A (subscriptTail e (.Slice lo hi none p2) v (.ref s3.heap.objs.size)) (EP X pins σ Q) X.xe { s3 with heap := s3.heap.push { cls := .type "slice", data := .fields #[vl, vu, .none] } }
  exact tail_any (ops := [.ref s3.heap.objs.size, v]) ht hT hg (by with_unfolding_all rfl)
noncomputable def cutV (xs : List V) (lo hi : Option Int) : List V := (xs.drop (HT.sIx xs.length 0 lo)).take (HT.sIx xs.length xs.length hi - HT.sIx xs.length 0 lo)
theorem cutV_length (xs : List V) (lo hi : Option Int) : (cutV xs lo hi).length ≤ xs.length := by
  unfold cutV
  rw [List.length_take, List.length_drop]
  omega
noncomputable def rLtT (K : PySem.W.Frag) : R2 := fun x y H Q => ∃ a b ns ms, x = .ref a ∧ y = .ref b ∧ SqT K H a (ns.map V.int) ∧ SqT K H b (ms.map V.int) ∧ Q (.bl (HT.lexLt ns ms)) H
theorem op_ltT (hu : X.A.units < cLine) : OpR X (compareOp .Lt) (rLtT X.K) := by
  intro pins s σ H x y v u Q I rx ry h
  obtain ⟨a, b, ns, ms, rfl, rfl, ha, hb, q⟩ := h
  cases rx
  cases ry
  obtain ⟨its, r1, p1, _⟩ := I.tuple ha
  obtain ⟨its2, r2, p2, _⟩ := I.tuple hb
  have i1 : IntsAre its.toArray.toList ns := intsAre_of r1
  have i2 : IntsAre its2.toArray.toList ms := intsAre_of r2
  exact HT.lt_tupInts p1 p2 i1 i2 hu ⟨.bl (HT.lexLt ns ms), H, I, rfl, q⟩
theorem Vals.nil_iff {xs : List V} {us : List Value} (r : Vals xs us) : us = [] ↔ xs = [] := by
  cases r with
  | nil => simp
  | cons _ _ => simp
end
end L2
namespace L2
open PySem PySem.Spec PyProof.Rows
noncomputable def ixN (n : Nat) (i : Int) : Option Nat := if 0 ≤ i then (if i < n then some i.toNat else none) else if -(n : Int) ≤ i then some (i + n).toNat else none
noncomputable def atI {α : Type} (xs : List α) (i : Int) : Option α := (ixN xs.length i).bind fun j => xs[j]?
theorem ixN_seq {n : Nat} {i : Int} {j : Nat} (h : ixN n i = some j) : seqIndex? i n = some j ∧ j < n ∧ -(n : Int) ≤ i ∧ i < n := by
  unfold ixN at h
  by_cases h0 : 0 ≤ i
  · rw [if_pos h0] at h
    by_cases h1 : i < n
    · rw [if_pos h1] at h
      have e : i.toNat = j := Option.some.inj h
      exact ⟨by rw [seqIndex_of h0 h1, e], by omega, by omega, h1⟩
    · rw [if_neg h1] at h; cases h
  · rw [if_neg h0] at h
    by_cases h1 : -(n : Int) ≤ i
    · rw [if_pos h1] at h
      have e : (i + n).toNat = j := Option.some.inj h
      exact ⟨by rw [seqIndex_neg (by omega) h1, e], by omega, h1, by omega⟩
    · rw [if_neg h1] at h; cases h
theorem atI_get {α : Type} {xs : List α} {i : Int} {v : α} (h : atI xs i = some v) : ∃ j, seqIndex? i xs.length = some j ∧ xs[j]? = some v ∧ j < xs.length ∧ -(xs.length : Int) ≤ i ∧ i < xs.length := by
  unfold atI at h
  cases e : ixN xs.length i with
  | none => rw [e] at h; cases h
  | some j =>
    rw [e] at h
    obtain ⟨h1, h2, h3, h4⟩ := ixN_seq e
    exact ⟨j, h1, h, h2, h3, h4⟩
theorem atI_nat {α : Type} {xs : List α} {j : Nat} {v : α} (h : xs[j]? = some v) : atI xs (j : Int) = some v := by
  have hj : j < xs.length := (List.getElem?_eq_some_iff.mp h).1
  have e : ixN xs.length (j : Int) = some j := by
    unfold ixN
    rw [if_pos (by omega), if_pos (by omega)]; simp
  unfold atI; rw [e]; exact h
noncomputable def PlainIx (b : Expr) : Prop := ∀ o i, subscripted b false o i = operate [o, i] (getItem o i)
noncomputable def IxR (X : Cx) (r : R2) : Prop :=
  ∀ (value slice : Expr) (pins : List (Addr × Obj)) (s : Shared) (σ : St) (H : Hp) (x y : V) (v u : Value) (Q : VK), Inv X pins σ H s → RelV x v → RelV y u → r x y H Q →
    subscripted slice false v u = operate [v, u] (getItem v u) → wpAny (model X.prog X.w) X.A (subscriptTail value slice v u) (EP X pins σ Q) X.xe s
noncomputable def MtR (X : Cx) (id : String) (r : V → List V → Hp → VK → Prop) : Prop :=
  ∀ (pins : List (Addr × Obj)) (s : Shared) (σ : St) (H : Hp) (x : V) (xs : List V) (v : Value) (us : List Value) (Q : VK), Inv X pins σ H s → RelV x v → Vals xs us → r x xs H Q →
    wpAny (model X.prog X.w) X.A (call (.builtin id) (v :: us)) (EP X pins σ Q) X.xe s
section
variable {X : Cx} {a b : Expr} {ta tb : TE} {pos : Pos}
theorem pe_ix {r : R2} (hr : IxR X r) (ha : PE X a ta) (hb : PE X b tb) (hs : PlainIx b) : PE X (.Subscript a b pos) (tOp r ta tb) := by
  intro pins s σ H Q I h
  exact Subscript_ (binT ha hb I h fun v u s2 x y H2 I2 rx ry q => hr a b pins s2 σ H2 x y v u Q I2 rx ry q (hs _ _))
noncomputable def rIxL (K : PySem.W.Frag) : R2 := fun x y H Q => ∃ p xs i v, x = .ref p ∧ y = .int i ∧ SqL K H p xs ∧ atI xs i = some v ∧ Q v H
noncomputable def rIxT (K : PySem.W.Frag) : R2 := fun x y H Q => ∃ p xs i v, x = .ref p ∧ y = .int i ∧ SqT K H p xs ∧ atI xs i = some v ∧ Q v H
theorem ix_list : IxR X (rIxL X.K) := by
  intro value slice pins s σ H x y v u Q I rx ry h hs
  obtain ⟨p, xs, i, z, rfl, rfl, hq, he, q⟩ := h
  cases rx
  obtain ⟨t, rfl⟩ := ry
  obtain ⟨its, r, pl, hz⟩ := I.list hq
  obtain ⟨j, h1, h2, h3, h4, h5⟩ := atI_get he
  obtain ⟨w, ew, rw'⟩ := r.get h2
  have hl := r.length
  have hn := line63
  have fin : EP X pins σ Q w s := ⟨z, H, I, rw', q⟩
  by_cases h0 : 0 ≤ i
  · have hj : i.toNat = j := by
      rw [seqIndex_of h0 h5] at h1
      exact Option.some.inj h1
    exact item_listR pl.isList h0 (by omega) (by rw [hj]; simpa using ew) fin hs
  · have hj : (i + (its.toArray.size : Int)).toNat = j := by
      rw [seqIndex_neg (by omega) h4] at h1
      rw [List.size_toArray, ← hl]
      exact Option.some.inj h1
    exact subscriptTail_builtinR (x := w) pl.isList.typeIs slot_list_getitem.lookup
      (wpAny_getItem_list_neg (Q := fun r s' => r = w ∧ EP X pins σ Q r s') pl.isList (by omega) (by rw [List.size_toArray] <;> omega) (by omega) (by rw [hj]; simpa using ew) ⟨rfl, fin⟩) hs
theorem ix_tup : IxR X (rIxT X.K) := by
  intro value slice pins s σ H x y v u Q I rx ry h hs
  obtain ⟨p, xs, i, z, rfl, rfl, hq, he, q⟩ := h
  cases rx
  obtain ⟨t, rfl⟩ := ry
  obtain ⟨its, r, pl, hz⟩ := I.tuple hq
  obtain ⟨j, h1, h2, h3, h4, h5⟩ := atI_get he
  obtain ⟨w, ew, rw'⟩ := r.get h2
  have hl := r.length
  have hn := line63
  have fin : EP X pins σ Q w s := ⟨z, H, I, rw', q⟩
  exact subscriptTail_builtinR (x := w) pl.typeIs slot_tuple_getitem.lookup
    (getItem_tuple (j := j) (Q := fun r s' => r = w ∧ EP X pins σ Q r s') pl (by omega) (by omega) (by rw [List.size_toArray, ← hl]; exact h1) (by simpa using ew) ⟨rfl, fin⟩) hs
theorem mapSeq_set (its : List Value) (n j : Nat) (u : Value) : Obj.mapSeq (·.setIfInBounds j u) { cls := .type "list", data := .seq its.toArray n } = { cls := .type "list", data := .seq (its.set j u).toArray n } := by
  simp [Obj.mapSeq]
theorem Inv.lst {pins : List (Addr × Obj)} {σ : St} {H : Hp} {s : Shared} {p : Addr} {xs : List V} (I : Inv X pins σ H s) (h : H p = some (.lst xs)) :
    ∃ (its : List Value) (n : Nat), Vals xs its ∧ s.heap.get? p = some { cls := .type "list", data := .seq its.toArray n } ∧ xs.length ≤ sizeLine := by
  obtain ⟨z, its, n, r, e⟩ := I.hok p _ h
  exact ⟨its, n, r, e, z⟩
theorem Inv.lstUpd {pins : List (Addr × Obj)} {σ : St} {H : Hp} {s : Shared} {p : Addr} {xs ys : List V} {its its' : List Value} {n n' : Nat} {f : Obj → Obj} (I : Inv X pins σ H s) (h : H p = some (.lst xs))
    (ho : s.heap.get? p = some { cls := .type "list", data := .seq its.toArray n }) (hf : f { cls := .type "list", data := .seq its.toArray n } = { cls := .type "list", data := .seq its'.toArray n' }) (r : Vals ys its') (hz : ys.length ≤ sizeLine) (t : Nat) :
    Inv X pins σ (upd H p (.lst ys)) { s with heap := s.heap.update p f, toks := t } := by
  have e : (s.heap.update p f).get? p = some { cls := .type "list", data := .seq its'.toArray n' } := by
    rw [Heap.get?_update_self f ho (by rw [hf] <;> rfl), hf]
  refine I.write (x := p) (e := p) (by rw [h]; trivial) (.inl rfl) (fun b u hb q => (Heap.get?_update_other _ _ (Ne.symm hb)).trans q) ⟨_, e⟩ ?_
  exact ⟨hz, its', n', r, e⟩
noncomputable def rSetL : V → V → V → Hp → (Hp → Prop) → Prop := fun o i v H Q => ∃ p xs k j, o = .ref p ∧ i = .int k ∧ H p = some (.lst xs) ∧ ixN xs.length k = some j ∧ Q (upd H p (.lst (xs.set j v)))
theorem set_list : PSet X rSetL := by
  intro pins s σ H o i v ov iv u Q I ro ri rv h
  obtain ⟨p, xs, k, j, rfl, rfl, hp, hj, q⟩ := h
  cases ro
  obtain ⟨t, rfl⟩ := ri
  obtain ⟨its, n, r, ho, hz⟩ := I.lst hp
  obtain ⟨h1, h2, h3, h4⟩ := ixN_seq hj
  have hl := r.length
  have hn := line63
  have I' : Inv X pins σ (upd H p (.lst (xs.set j v))) { s with heap := s.heap.update p (Obj.mapSeq (·.setIfInBounds j u)) } :=
    I.lstUpd hp ho (mapSeq_set its n j u) (r.set rv j) (by rw [List.length_set]; exact hz) s.toks
  by_cases h0 : 0 ≤ k
  · have hk : k.toNat = j := by
      rw [seqIndex_of h0 h4] at h1
      exact Option.some.inj h1
    exact PySem.W.ki_setAt ho h0 (by omega) (by rw [List.size_toArray, ← hl]; exact h4) (by rw [hk]; exact ⟨_, I', q⟩)
  · have hk : (k + (its.toArray.size : Int)).toNat = j := by
      rw [seqIndex_neg (by omega) h3] at h1
      rw [List.size_toArray, ← hl]
      exact Option.some.inj h1
    exact PySem.W.ki_setBack ho (by omega) (by rw [List.size_toArray, ← hl]; exact h3) (by omega) (by rw [hk]; exact ⟨_, I', q⟩)
theorem slice_bounds (lo hi : Option Int) (n : Nat) : (sliceBounds lo hi none n).1 = ((HT.sIx n 0 lo : Nat) : Int) ∧ (sliceBounds lo hi none n).2.1 = ((HT.sIx n n hi : Nat) : Int) ∧ (sliceBounds lo hi none n).2.2 = 1 := by
  refine ⟨?_, ?_, rfl⟩
  · cases lo with
    | none => simp [sliceBounds, HT.sIx]
    | some i =>
      simp only [sliceBounds, HT.sIx, Option.getD_none, show (1 : Int) > 0 by decide, if_true]
      by_cases h : i < 0
      · simp only [h, if_true] <;> omega
      · simp only [h, if_false] <;> omega
  · cases hi with
    | none => simp [sliceBounds, HT.sIx]
    | some i =>
      simp only [sliceBounds, HT.sIx, Option.getD_none, show (1 : Int) > 0 by decide, if_true]
      by_cases h : i < 0
      · simp only [h, if_true] <;> omega
      · simp only [h, if_false] <;> omega
theorem slicePick_cut (its : List Value) (lo hi : Option Int) : slicePick its.toArray lo hi none = ((its.drop (HT.sIx its.length 0 lo)).take (HT.sIx its.length its.length hi - HT.sIx its.length 0 lo)).toArray := by
  obtain ⟨h1, h2, h3⟩ := slice_bounds lo hi its.toArray.size
  unfold slicePick
  rw [h1, h2, h3]
  simp only [sliceRange_one, pick_run, List.size_toArray] <;> rfl
noncomputable def rSlL (K : PySem.W.Frag) : V → Option Int → Option Int → Hp → VK → Prop := fun x lo hi H Q => ∃ a xs, x = .ref a ∧ SqL K H a xs ∧ ∀ p, H p = none → Q (.ref p) (upd H p (.lst (cutV xs lo hi)))
theorem sl_list : SlR X (rSlL X.K) := by
  intro pins s σ H x v vl vu lo hi sl Q I rx hs pl pu h
  obtain ⟨a, xs, rfl, hx, q⟩ := h
  cases rx
  obtain ⟨its, r, ht, hz⟩ := I.list hx
  have hlen := r.length
  refine ⟨"list", _, slot_list_getitem.lookup, ht.isList.typeIs, ?_⟩
  refine wpAny_getItem_list_slice ht.isList hs pl pu .none (by simp) ?_ (by rw [List.size_toArray] <;> omega)
  rw [slicePick_cut, ← hlen]
  refine ⟨.ref s.heap.objs.size, _, I.laid (t' := s.toks) (o := .lst (cutV xs lo hi)) (fun b ob q => Heap.get?_push_of_some _ q) (Nat.le_refl _) ?_, rfl, q _ (I.hok.fresh (Nat.le_refl _))⟩
  exact ⟨Nat.le_trans (cutV_length xs lo hi) hz, _, 0, (r.drop (HT.sIx xs.length 0 lo)).take (HT.sIx xs.length xs.length hi - HT.sIx xs.length 0 lo), Heap.get?_push_size _ rfl⟩
theorem call_len_seq : CallR X (.builtin "len") (fun xs H Q => ∃ p ys, xs = [.ref p] ∧ (SqL X.K H p ys ∨ SqT X.K H p ys) ∧ Q (.int ys.length) H) := by
  intro pins s σ H xs us Q I r h
  obtain ⟨p, ys, rfl, hq, q⟩ := h
  obtain ⟨u, rfl, rx⟩ := vals1 r
  cases rx
  have hn := line63
  rcases hq with hq | hq
  · obtain ⟨its, r', pl, hz⟩ := I.list hq
    have hlen := r'.length
    exact Calls.call_len_list pl.isList (by simp only [List.size_toArray] <;> omega) ⟨.int ys.length, H, I.tok _, ⟨s.toks + 1, by rw [List.size_toArray, hlen]⟩, q⟩
  · obtain ⟨its, r', pl, hz⟩ := I.tuple hq
    have hlen := r'.length
    exact len_tuple pl (by simp only [List.size_toArray] <;> omega) ⟨.int ys.length, H, I.tok _, ⟨s.toks + 1, by rw [List.size_toArray, hlen]⟩, q⟩
theorem call_list_of : CallR X (.type "list") (fun xs H Q => ∃ p ys, xs = [.ref p] ∧ (SqL X.K H p ys ∨ SqT X.K H p ys) ∧ ∀ l, H l = none → Q (.ref l) (upd H l (.lst ys))) := by
  intro pins s σ H xs us Q I r h
  obtain ⟨p, ys, rfl, hq, q⟩ := h
  obtain ⟨u, rfl, rx⟩ := vals1 r
  cases rx
  have fin : ∀ (its : List Value), Vals ys its → ys.length ≤ sizeLine → ∀ (h' : Heap) (c' : Nat), (∀ b o', s.heap.get? b = some o' → h'.get? b = some o') →
      h'.get? s.heap.objs.size = some { cls := .type "list", dict := none, data := .seq its.toArray c', slots := #[] } → EP X pins σ Q (.ref s.heap.objs.size) { s with heap := h' } := fun its r' hz h' c' kp e =>
    ⟨.ref s.heap.objs.size, _, I.laid (t' := s.toks) kp (Nat.le_refl _) (show ObjOk X.prog X.w _ h' _ (.lst ys) from ⟨hz, its, c', r', e⟩), rfl, q _ (I.hok.fresh (Nat.le_refl _))⟩
  rcases hq with hq | hq
  · obtain ⟨its, r', pl, hz⟩ := I.list hq
    have hlen := r'.length
    obtain ⟨o, ho, hc, n, hd⟩ := pl.isList
    exact call_list_seq p (.inl rfl) ho hc hd (fun h' c' kp e => fin its r' hz h' c' kp e) (by simp only [List.size_toArray] <;> omega)
  · obtain ⟨its, r', pl, hz⟩ := I.tuple hq
    have hlen := r'.length
    obtain ⟨o, ho, hc, n, hd⟩ := pl
    exact call_list_seq p (.inr rfl) ho hc hd (fun h' c' kp e => fin its r' hz h' c' kp e) (by simp only [List.size_toArray] <;> omega)
theorem call_tuple_of : CallR X (.type "tuple") (fun xs H Q => ∃ p ys, xs = [.ref p] ∧ ((SqL X.K H p ys ∧ ∀ l, H l = none → Q (.ref l) (upd H l (.tup ys))) ∨ (SqT X.K H p ys ∧ Q (.ref p) H))) := by
  intro pins s σ H xs us Q I r h
  obtain ⟨p, ys, rfl, h⟩ := h
  obtain ⟨u, rfl, rx⟩ := vals1 r
  cases rx
  rcases h with ⟨hq, q⟩ | ⟨hq, q⟩
  · obtain ⟨its, r', pl, hz⟩ := I.list hq
    have hlen := r'.length
    refine call_tuple_list pl.isList (fun h' kp => ?_) (by simp only [List.size_toArray] <;> omega)
    have I1 : Inv X pins σ H { s with heap := h' } := I.kept (t' := s.toks) kp
    have I2 : Inv X pins σ (upd H h'.objs.size (.tup ys)) { s with heap := h'.push { cls := .type "tuple", data := .seq its.toArray } } :=
      I1.laid (t' := s.toks) (fun b o e => Heap.get?_push_of_some _ e) (Nat.le_refl _) (show ObjOk X.prog X.w _ _ _ (.tup ys) from ⟨hz, its, r', IsTup.new _ _⟩)
    exact ⟨.ref h'.objs.size, _, I2, rfl, q _ (I1.hok.fresh (Nat.le_refl _))⟩
  · obtain ⟨its, r', pl, hz⟩ := I.tuple hq
    exact call_tuple_same pl ⟨.ref p, H, I, rfl, q⟩
noncomputable def tyV (K : PySem.W.Frag) (T : String) (x : V) (H : Hp) : Prop := match x with
  | .str _ => T = "str"
  | .int _ => T = "int"
  | .ref p => (T = "list" ∧ ∃ xs, SqL K H p xs) ∨ (T = "tuple" ∧ ∃ o, K.lookup p = some o ∧ o.cls = .type "tuple" ∧ o.dict = none) ∨
      (T = "dict" ∧ ((∃ kvs, H p = some (.dK kvs)) ∨ ∃ kvs, H p = some (.dT kvs))) ∨ (T = "set" ∧ ∃ S n, H p = some (.set S n))
  | _ => False
theorem tyV_is {pins : List (Addr × Obj)} {σ : St} {H : Hp} {s : Shared} {T : String} {x : V} {v : Value} (I : Inv X pins σ H s) (r : RelV x v) (ty : tyV X.K T x H) :
    s.TypeIs v T ∧ ∀ a, v = .ref a → ∃ ob, s.heap.get? a = some ob ∧ ob.dict = none := by
  cases x with
  | str z =>
    obtain ⟨t, rfl⟩ := r
    cases (show T = "str" from ty)
    exact ⟨typeIs_str s z t, fun _ e => nomatch e⟩
  | int i =>
    obtain ⟨t, rfl⟩ := r
    cases (show T = "int" from ty)
    exact ⟨typeIs_int s i t, fun _ e => nomatch e⟩
  | ref p =>
    cases r
    rcases ty with ⟨rfl, xs, hq⟩ | ⟨rfl, o, hk, hc, hd⟩ | ⟨rfl, hk⟩ | ⟨rfl, S, n, hk⟩
    · obtain ⟨its, _, pl, _⟩ := I.list hq
      refine ⟨pl.isList.typeIs, fun a e => ?_⟩
      cases e
      obtain ⟨o, n, e, c, hd, _⟩ := pl
      exact ⟨o, e, hd⟩
    · refine ⟨⟨o, I.kIn p o hk, hc⟩, fun a e => ?_⟩
      cases e
      exact ⟨o, I.kIn _ o hk, hd⟩
    · have z : ∃ o, s.heap.get? p = some o ∧ o.ExactDict := by
        rcases hk with ⟨kvs, hk⟩ | ⟨kvs, hk⟩
        · obtain ⟨_, _, _, _, o, _, _, e, ex, _⟩ := I.hok p _ hk
          exact ⟨o, e, ex⟩
        · obtain ⟨_, _, _, _, o, _, _, e, ex, _⟩ := I.hok p _ hk
          exact ⟨o, e, ex⟩
      obtain ⟨o, e, ex⟩ := z
      refine ⟨⟨o, e, ex.1⟩, fun a e2 => ?_⟩
      cases e2
      exact ⟨o, e, ex.2.1⟩
    · obtain ⟨o, _, _, _, e, ex, _⟩ := I.hok p _ hk
      refine ⟨⟨o, e, ex.1⟩, fun a e2 => ?_⟩
      cases e2
      exact ⟨o, e, ex.2.1⟩
  | _ => exact False.elim ty
noncomputable def tBM (K : PySem.W.Frag) (T : String) (r : V → List V → Hp → VK → Prop) (to : TE) (t : TA) : TE := fun σ H Q => to σ H fun x H1 => tyV K T x H1 ∧ t σ H1 fun xs H2 => r x xs H2 Q
variable {o e : Expr} {es : List Expr} {to : TE} {t : TA} {name : Str} {apos cpos : Pos} {T id : String} {r : V → List V → Hp → VK → Prop}
theorem pe_bm (pa : PlainAttrs T) (slot : Slot T name id) (hty : typeOf (.builtin id) = pure (.type "method_descriptor")) (hm : MtR X id r) (ho : PE X o to) (ha : PA X (e :: es) t)
    (hbase : attributeBase o name X.env (eval o X.env) = eval o X.env := by rfl)
    (hfew : ((backTo cpos (starEach (e :: es) X.env)).all (fun x => !x.1) && (backToKw cpos (keywordEach [] X.env)).all (fun x => x.1.isSome)
      && decide ((e :: es).length + ([] : List Keyword).length + (if ([] : List Keyword).isEmpty then 0 else 1) < 30)) = true := by rfl)
    (hline : (apos.endLine == cpos.line) = true := by rfl) (hs : starEach (e :: es) X.env = (false, eval e X.env) :: starEach es X.env := by rfl) (hplain : (backTo cpos (starEach es X.env)).any (·.1) = false := by rfl) :
    PE X (.Call (.Attribute o name apos) (e :: es) [] cpos) (tBM X.K T r to t) := by
  intro pins s σ H Q I h
  refine wpAny_Call_method_late hbase hfew hline rfl (thn (ho pins s σ H _ I h) fun v s1 ⟨x, H1, I1, r1, ty, q1⟩ => ?_)
  obtain ⟨h1, h2⟩ := tyV_is I1 r1 ty
  refine ⟨T, id, pa, slot, hty, h1, h2, ?_⟩
  have hA := ha cpos pins s1 σ H1 _ I1 q1
  rw [hs] at hA ⊢
  refine Calls.callWith_builtin (by show (false || (backTo cpos (starEach es X.env)).any (·.1)) = false; rw [hplain] <;> rfl) (Calls.evalArgs_plain ?_)
  exact thn hA fun us s2 ⟨vs, H2, I2, r2, q2⟩ => hm pins s2 σ H2 x vs v us Q I2 r1 r2 q2
/- xs.append(e), list.index on a module's tuple .. are MtR facts of 06m -/
end
end L2
namespace L2
open PySem PySem.Spec PyProof.Rows
noncomputable def MtM (X : Cx) (id : String) (r : V → List V → Hp → VK → Prop) : Prop :=
  ∀ (pins : List (Addr × Obj)) (s : Shared) (σ : St) (H : Hp) (x : V) (xs : List V) (v : Value) (us : List Value) (Q : VK), Inv X pins σ H s → RelV x v → Vals xs us → r x xs H Q →
    wpAny (model X.prog X.w) X.A (call (.builtin id) (v :: us)) (EP X pins σ Q) X.xe s
theorem Vals.one : ∀ {x : V} {us : List Value}, Vals [x] us → ∃ u, us = [u] ∧ RelV x u
  | _, _, .cons r .nil => ⟨_, rfl, r⟩
theorem Vals.eraseIdx : ∀ {xs : List V} {us : List Value} (i : Nat), Vals xs us → Vals (xs.eraseIdx i) (us.eraseIdx i)
  | _, _, _, .nil => .nil
  | _, _, 0, .cons _ t => t
  | _, _, i + 1, .cons r t => .cons r (Vals.eraseIdx i t)
theorem Vals.rep {xs : List V} {us : List Value} (h : Vals xs us) : ∀ k : Nat, Vals (List.replicate k xs).flatten (List.replicate k us).flatten
  | 0 => .nil
  | k + 1 => by
    rw [List.replicate_succ, List.replicate_succ, List.flatten_cons, List.flatten_cons]
    exact Vals.append h (Vals.rep h k)
theorem len_erase {α : Type} : ∀ (l : List α) (i : Nat), (l.eraseIdx i).length ≤ l.length
  | [], _ => Nat.le_refl _
  | _ :: _, 0 => Nat.le_succ _
  | _ :: r, i + 1 => Nat.succ_le_succ (len_erase r i)
theorem foldl_rep (its : List Value) : ∀ (k : Nat) (acc : List Value),
    List.foldl (fun x1 x2 => x1 ++ x2) acc.toArray (List.replicate k its.toArray) = (acc ++ (List.replicate k its).flatten).toArray
  | 0, acc => by simp
  | k + 1, acc => by
    have e : acc.toArray ++ its.toArray = (acc ++ its).toArray := by simp
    have e2 : (acc ++ its) ++ (List.replicate k its).flatten = acc ++ (List.replicate (k + 1) its).flatten := by
      rw [List.replicate_succ, List.flatten_cons, List.append_assoc]
    rw [← e2, ← foldl_rep its k (acc ++ its), ← e, List.replicate_succ, List.foldl_cons]
section
variable {X : Cx} {pins : List (Addr × Obj)} {σ : St} {H : Hp} {s : Shared} {l b : Addr} {xs ys zs : List V}
theorem Inv.lset {its its' : List Value} {n : Nat} {f : Array Value → Array Value} {t' : Nat} (I : Inv X pins σ H s) (hH : H l = some (.lst xs))
    (e : s.heap.get? l = some { cls := .type "list", data := .seq its.toArray n }) (hf : f its.toArray = its'.toArray) (hv : Vals ys its') (hz : ys.length ≤ sizeLine) :
    Inv X pins σ (upd H l (.lst ys)) { s with heap := s.heap.update l (Obj.mapSeq f), toks := t' } := by
  have q := PySem.IsL.update e f
  rw [hf] at q
  refine I.write (x := l) (e := l) (by rw [hH]; exact trivial) (.inl rfl) (fun b' u hb hu => (Heap.get?_update_other s.heap (Obj.mapSeq f) (Ne.symm hb)).trans hu) ⟨_, q⟩ ?_
  exact ⟨hz, its', _, hv, q⟩
theorem Inv.lnew {its : List Value} {t' : Nat} (I : Inv X pins σ H s) (hv : Vals ys its) (hz : ys.length ≤ sizeLine) :
    Inv X pins σ (upd H s.heap.objs.size (.lst ys)) { s with heap := s.heap.push { cls := .type "list", data := .seq its.toArray }, toks := t' } :=
  I.laid (fun _ _ q => Heap.get?_push_of_some _ q) (Nat.le_refl _) ⟨hz, its, 0, hv, Heap.get?_push_size _ rfl⟩
theorem Inv.fresh (I : Inv X pins σ H s) : H s.heap.objs.size = none := I.hok.fresh (Nat.le_refl _)
theorem Inv.lstM (I : Inv X pins σ H s) (hH : H l = some (.lst xs)) : xs.length ≤ sizeLine ∧ ∃ (its : List Value) (n : Nat), Vals xs its ∧ xs.length = its.length ∧ s.heap.get? l = some { cls := .type "list", data := .seq its.toArray n } := by
  obtain ⟨z, its, n, r, e⟩ := I.hok l _ hH
  exact ⟨z, its, n, r, r.length, e⟩
theorem notLongL {n : Nat} (h : n ≤ sizeLine) : Builtin.List.listTooLong n = false := by
  unfold Builtin.List.listTooLong
  exact decide_eq_false (by omega)
end
section
variable {X : Cx}
noncomputable def rAppend : V → List V → Hp → VK → Prop := fun x vs H Q => ∃ l xs y, x = .ref l ∧ vs = [y] ∧ H l = some (.lst xs) ∧ xs.length < sizeLine ∧ Q .non (upd H l (.lst (xs ++ [y])))
theorem mt_append : MtM X "list.append" rAppend := by
  intro pins s σ H x vs v us Q I rx rv h
  obtain ⟨l, xs, y, rfl, rfl, hH, hz, q⟩ := h
  cases rx
  obtain ⟨u, rfl, ru⟩ := rv.one
  obtain ⟨z, its, n, r, hl, e⟩ := I.lstM hH
  refine call_meets F.slot_list_append ⟨_, e, rfl⟩ F.entry_list_append (F.args_list_append_2 _ _) (PySem.list_append l its.toArray n u (by rw [List.size_toArray]; omega)) ⟨e, ?_⟩
  refine ⟨.non, _, I.lset (its' := its ++ [u]) hH e (by simp) (r.append (.cons ru .nil)) ?_, rfl, q⟩
  rw [List.length_append, List.length_singleton]
  omega
noncomputable def rPopAt : V → List V → Hp → VK → Prop := fun x vs H Q => ∃ l xs i k y, x = .ref l ∧ vs = [.int i] ∧ H l = some (.lst xs) ∧ -(2 ^ 63) ≤ i ∧ i < 2 ^ 63 ∧ seqIndex? i xs.length = some k ∧ xs[k]? = some y ∧ Q y (upd H l (.lst (xs.eraseIdx k)))
theorem mt_popAt : MtM X "list.pop" rPopAt := by
  intro pins s σ H x vs v us Q I rx rv h
  obtain ⟨l, xs, i, k, y, rfl, rfl, hH, h1, h2, hk, hy, q⟩ := h
  cases rx
  obtain ⟨u, rfl, ru⟩ := rv.one
  obtain ⟨t, rfl⟩ := ru
  obtain ⟨z, its, n, r, hl, e⟩ := I.lstM hH
  obtain ⟨w, hw, rw'⟩ := r.get hy
  refine call_meets F.slot_list_pop ⟨_, e, rfl⟩ F.entry_list_pop (F.args_list_pop_2 _ _)
    (MeetsSeq.list_pop_at l its.toArray n i t k w (fitsIndex_both h1 h2) (by rw [List.size_toArray, ← hl]; exact hk) (by rw [← Array.getElem?_toList]; exact hw) (by rw [List.size_toArray]; omega)) ⟨e, ?_⟩
  refine ⟨y, _, I.lset (its' := its.eraseIdx k) hH e ?_ (r.eraseIdx k) ?_, rw', q⟩
  · show its.toArray.eraseIdxIfInBounds k = (its.eraseIdx k).toArray
    rw [List.eraseIdxIfInBounds_toArray]
  · have := len_erase xs k
    omega
noncomputable def rCat : R2 := fun x y H Q => ∃ l b xs zs, x = .ref l ∧ y = .ref b ∧ H l = some (.lst xs) ∧ H b = some (.lst zs) ∧ xs.length + zs.length ≤ sizeLine ∧ ∀ p, H p = none → Q (.ref p) (upd H p (.lst (xs ++ zs)))
theorem op_cat : OpR X (binaryOp .Add) rCat := by
  intro pins s σ H x y v u Q I rx ry h
  obtain ⟨l, b, xs, zs, rfl, rfl, hH, hB, hz, q⟩ := h
  cases rx
  cases ry
  obtain ⟨z, its, n, r, hl, e⟩ := I.lstM hH
  obtain ⟨z2, its2, n2, r2, hl2, e2⟩ := I.lstM hB
  refine PySem.P.add_list e e2 ?_ (by rw [List.size_toArray, List.size_toArray]; omega)
  have ea : its.toArray ++ its2.toArray = (its ++ its2).toArray := by simp
  rw [ea]
  exact ⟨.ref _, _, I.lnew (t' := s.toks) (r.append r2) (by rw [List.length_append]; omega), rfl, q _ I.fresh⟩
noncomputable def rRep : R2 := fun x y H Q => ∃ l k xs, x = .ref l ∧ y = .int k ∧ H l = some (.lst xs) ∧ -(2 ^ 63) ≤ k ∧ k < 2 ^ 63 ∧ xs.length * k.toNat ≤ sizeLine ∧
  ∀ p, H p = none → Q (.ref p) (upd H p (.lst (List.replicate k.toNat xs).flatten))
theorem len_rep {α : Type} (xs : List α) (k : Nat) : (List.replicate k xs).flatten.length = k * xs.length := by
  induction k with
  | zero => simp
  | succ k ih => rw [List.replicate_succ, List.flatten_cons, List.length_append, ih, Nat.succ_mul, Nat.add_comm]
theorem op_rep : OpR X (binaryOp .Mult) rRep := by
  intro pins s σ H x y v u Q I rx ry h
  obtain ⟨l, k, xs, rfl, rfl, hH, h1, h2, hz, q⟩ := h
  cases rx
  obtain ⟨t, rfl⟩ := ry
  obtain ⟨z, its, n, r, hl, e⟩ := I.lstM hH
  have hlen : its.toArray.size * k.toNat ≤ sizeLine := by rw [List.size_toArray, ← hl]; exact hz
  have hcap : ¬ its.toArray.size * k.toNat > (2 ^ 63 - 1) / 8 := by
    have : (sizeLine : Nat) ≤ (2 ^ 63 - 1) / 8 := by decide
    omega
  have hfit : ¬ (!Builtin.List.listFitsIndex k) = true := by
    rw [fitsIndex_both h1 h2]
    exact Bool.false_ne_true
  have hlong : ¬ Builtin.List.listTooLong (its.toArray.size * k.toNat) = true := by
    rw [notLongL hlen]
    exact Bool.false_ne_true
  have hnew : List.foldl (fun x1 x2 => x1 ++ x2) #[] (List.replicate (if its.toArray.isEmpty = true then 0 else k.toNat) its.toArray) = (List.replicate k.toNat its).flatten.toArray := by
    have f0 : ∀ m : Nat, List.foldl (fun x1 x2 => x1 ++ x2) #[] (List.replicate m its.toArray) = (List.replicate m its).flatten.toArray := fun m => by
      have := foldl_rep its m []
      rw [List.nil_append] at this
      exact this
    rw [f0]
    cases its with
    | nil => simp
    | cons a r' => rw [if_neg (by simp)]
  refine wpAny_binaryOp_repeat_ref (T := "list") (U := "int") (by decide) ⟨_, e, rfl⟩ (fun s' => typeIs_int s' k t) noFill_list_mul F.fills_int_mul F.slot_int_rmul repeat_list F.slot_int_index.lookup
    (call_meets F.slot_int_rmul (typeIs_int s k t) F.entry_int_rmul (F.args_int_rmul_2 _ _) (int___rmul___int_list k t l its.toArray n)
      ⟨e, rfl, ⟨_, e, rfl⟩, call_meets F.slot_list_mul ⟨_, e, rfl⟩ F.entry_list_mul (F.args_list_mul_2 _ _) (AutoListH.list___mul___list_int_3 l its.toArray n k t hfit hcap hlong) ⟨e, ?_⟩⟩)
  rw [hnew]
  exact ⟨.ref _, _, I.lnew (t' := s.toks) (r.rep k.toNat) (by rw [len_rep, Nat.mul_comm]; exact hz), rfl, q _ I.fresh⟩
end
section
variable {prog : Program} {w : World} {A : Around} {E : Value → Shared → Prop} {s : Shared}
set_option maxRecDepth 100000 in
end
section
variable {X : Cx}
end
end L2
namespace Att
open PySem PySem.W PySem.Calls PyProof.Rows
theorem ints_of_wellAll {P : Params} {h : Heap} : ∀ (ns : List Int) (vs : List Value), WellAll P h vs (ns.map WData.int) → IntsAre vs ns := by
  intro ns
  induction ns with
  | nil =>
    intro vs w
    rw [List.map_nil] at w
    cases w
    exact .nil
  | cons n ns ih =>
    intro vs w
    rw [List.map_cons] at w
    cases w with
    | cons a b =>
      cases a
      exact .cons _ _ (ih _ b)
theorem script_of {l : OpenLaw} {n : Nat} (hn : l.most = some n) {P : Params} {h : Heap} {args : List WData} {vals : List Value}
    (hpre : l.row.toRowW.claim.pre args = true) (hwl : WellAll P h vals args) :
    ∃ a vs ns, vals = [Value.ref a] ∧ args = [WData.list (ns.map WData.int)] ∧ h.get? a = some { cls := .type "list", data := .seq vs.toArray } ∧ IntsAre vs ns ∧ ns.length ≤ n := by
  have hsh : WShape.hasAll [] args [.list .int] = true := (pre_splitW hpre).1
  have hc : l.pre.holds [] { args := args } = true := (pre_splitW hpre).2
  obtain ⟨d, r, rfl, h1, h2⟩ := hasAllW_cons hsh
  obtain rfl := hasAllW_nil h2
  obtain ⟨xs, rfl, h3⟩ := hasW_list h1
  obtain ⟨ns, rfl⟩ := items_int h3
  have hlen : ns.length ≤ n := by
    unfold OpenLaw.pre at hc
    have h4 : (WTm.not (.lt (.lit (.int (n : Int))) (.len (.arg 0)))).holds [] { args := [.list (ns.map .int)] } = true := by
      have h4 := (holds_andW hc).1
      rw [hn] at h4
      exact h4
    have h5 := condW_of h4 (w_not (w_lt w_lit (w_len_list (w_arg rfl))))
    rw [List.length_map] at h5
    refine Nat.le_of_not_lt fun q => ?_
    have q' : (n : Int) < ((ns.length : Nat) : Int) := by omega
    first
      | (rw [decide_eq_true q'] at h5; exact absurd h5 (by decide))
      | (simp at h5; omega)
  cases hwl with
  | cons w1 w2 =>
    cases w2
    cases w1 with
    | list ho hall => exact ⟨_, _, ns, rfl, rfl, ho, ints_of_wellAll ns _ hall, hlen⟩
theorem post_true (l : OpenLaw) (args : List WData) : l.row.toRowW.claim.post args (.bool true) args = true :=
  postW_of (r := l.row.toRowW) (X := (true == true))
    (show WShape.has [] (.bool true) .bool = true by first | rfl | decide | simp [WShape.has, WShape.arms, WShape.armsAll])
    (show (WTm.eq .res (.lit (.bool true))).value [] { args := args, res := some (.bool true), after := args } = some (.bool (true == true)) from w_eq_bool (w_res rfl) w_lit) rfl
theorem attach_call {l : OpenLaw} {n : Nat} {q : Program} {loose : List Str} {XP : (Str → Option Value) → Heap → Prop} {YP : World → Heap → Prop} {d : DefRec}
    (hn : l.most = some n) (hdf : d.params.defaults = [])
    (call : ∀ (w : World) (s₀ s₁ : Shared) (mg mb : Str → Option Value) (fa : Addr) (o : Obj) (pm cd doc : Value) (a : Addr) (vs : List Value) (ns : List Int),
      Ground q loose [] XP w s₀ mg mb s₁.heap → YP w s₁.heap →
      s₁.heap.get? fa = some o → o.data = .func (docDef d.name d.params d.body d.scope pm cd doc) → s₁.heap.CodeRec cd d.name → mg d.name = some (.ref fa) →
      s₁.heap.get? a = some { cls := .type "list", data := .seq vs.toArray } → IntsAre vs ns → ns.length ≤ n → s₁.gens = #[] →
      codeAny (model l.prog w) callerA (.call (.ref fa) ⟨[.ref a], []⟩) (fun r s' => r = .ok (.ret (.bool true)) ∧ OldK s₁.heap s'.heap ∧ s'.os = s₁.os ∧ AllBare s'.gens) s₁) :
    WalkO q loose XP YP l.row.toRowW d [] (fun f vs => PySem.call f vs) := by
  intro w s₀ s₁ mg mb G Y fa o pm cd doc dV kV ho hd hcd hD hmg hg args vals as hpre hlay hrd hwl hlo
  obtain rfl : dV = .none := Dflts.none hD hdf
  obtain rfl : kV = .none := Dflts.noKw hD
  obtain ⟨a, vs, ns, rfl, rfl, hobj, hints, hlen⟩ := script_of hn hpre hwl
  refine enter_call (codeAny_mono (call w s₀ s₁ mg mb fa o pm cd doc a vs ns G Y ho (fd_plain hd) hcd hmg hobj hints hlen hg) fun r s' hq => ?_)
  obtain ⟨rfl, h2, h3, h4⟩ := hq
  exact ⟨.inl ⟨.bool true, .bool true, [], rfl, fun _ => rfl, .bool true, post_true l _, fun _ => ⟨List.Pairwise.nil, fun _ hm => (nomatch hm)⟩⟩, h2, h3, h4⟩
section
variable {prog : Program} {w : World} {A : Around} {E : Value → Shared → Prop} {s : Shared} {K : Frag}
noncomputable def ledger (h : Heap) (L d : Addr) : List (Addr × Obj) := (List.range h.objs.size).filterMap fun a => if a = L ∨ a = d then none else (h.get? a).map fun o => (a, o)
end
end Att
namespace L2
open PySem PySem.Spec PyProof.Rows
theorem vals_ints : ∀ {vs : List Value} {ns : List Int}, IntsAre vs ns → Vals (ns.map V.int) vs
  | _, _, .nil => .nil
  | _, _, .cons n t h => .cons ⟨t, rfl⟩ (vals_ints h)
end L2
namespace L2
open PySem PySem.Spec PyProof.Rows
end L2
namespace L2
open PySem PySem.Spec PyProof.Rows
noncomputable def defArgs (s : Stmt) : Arguments := match s with
  | .FunctionDef _ a _ _ _ _ _ _ _ _ => a
  | _ => { posonlyargs := [], args := [], vararg := none, kwonlyargs := [], kw_defaults := [], kwarg := none, defaults := [] }
noncomputable def defBody (s : Stmt) : List Stmt := match s with
  | .FunctionDef _ _ b _ _ _ _ _ _ _ => b
  | _ => []
noncomputable def defScope (s : Stmt) : Scope := match s with
  | .FunctionDef _ _ _ _ _ _ sc _ _ _ => sc
  | _ => { kind := .function, names := [], isGenerator := false, isCoroutine := false }
noncomputable abbrev CX0 : CXT := fun _ _ _ _ _ _ => False
noncomputable abbrev E0 : XK := fun _ _ _ => False
theorem pass0 {X : Cx} : Passes CX0 X E0 := fun _ _ _ _ _ _ _ h => h.elim
structure Fun (K : PySem.W.Frag) (x qual : Str) (st : Stmt) (f : Addr) (fd : FuncData) : Prop where
  ex : ∃ (oc : Value) (od : Option Addr) (kV doc pm : Value) (an : Option Addr) (cdv ct : Value) (osl : Array (Option Value)),
    fd = PySem.W.fnOf x qual (defArgs st) (defBody st) (defScope st) .none kV doc pm an cdv ct ∧ K.lookup f = some ⟨oc, od, .func fd, osl⟩ ∧ PySem.W.codeIn K cdv qual = true
  kp : PySem.W.keepIn K (.ref f) = true
section
variable {P : Program} {w : World} {K : PySem.W.Frag} {mg : Str → Option Value} {base : Heap}
theorem Fun.ok {x qual : Str} {st : Stmt} {f : Addr} {fd : FuncData} {N ps : List Str} {k : Nat} {sp : Sp} (F : Fun K x qual st f fd) (S : FnScope N ps (defScope st)) (len : ∀ vs H Q E, sp vs H Q E → vs.length = ps.length)
    (hbody : ∀ (cdv : Value) (A : Around) (outer : List Env) (s : Shared) (H : Hp) (vs : List V) (Q : VK) (E : XK), Room k (A.deeper (envOfC qual (defScope st) s.heap.objs.size f cdv)) → sp vs H Q E →
      ∃ t, PSs (cxOf CX0 P w K mg base N qual (defScope st) f cdv A outer s H E).nox (defBody st) t ∧ t { nx := fun _ H' => Q .non H', rt := Q } (start N vs) H) : FnOk P w K mg base CX0 (k + 1) f fd ps sp := by
  obtain ⟨oc, od, kV, doc, pm, an, cdv, ct, osl, rfl, lk, hcd⟩ := F.ex
  refine fn_of lk hcd S len fun A outer s H vs Q E hr hsp => ?_
  obtain ⟨t, h, q⟩ := hbody cdv A outer s H vs Q E hr hsp
  exact ⟨t, h.nox, q⟩
theorem Fun.binds {x qual : Str} {st : Stmt} {f : Addr} {fd : FuncData} {ps : List Str} (F : Fun K x qual st f fd)
    (h : ∀ (kV doc pm : Value) (an : Option Addr) (cdv ct : Value) (us : List Value), us.length = ps.length → bindArgs (PySem.W.fnOf x qual (defArgs st) (defBody st) (defScope st) .none kV doc pm an cdv ct) ⟨us, []⟩ = pure (ps.zip us)) : Binds K fd ps [] := by
  obtain ⟨oc, od, kV, doc, pm, an, cdv, ct, osl, rfl, lk, hcd⟩ := F.ex
  exact .all (h kV doc pm an cdv ct)
theorem fun_mk {x qual : Str} {st : Stmt} {f : Addr} {oc : Value} {od an : Option Addr} {osl : Array (Option Value)} {kV doc pm cdv ct : Value} (l : K.lookup f = some ⟨oc, od, .func (PySem.W.fnOf x qual (defArgs st) (defBody st) (defScope st) .none kV doc pm an cdv ct), osl⟩)
    (c : PySem.W.codeIn K cdv qual = true) (k : PySem.W.keepIn K (.ref f) = true) : Fun K x qual st f (PySem.W.fnOf x qual (defArgs st) (defBody st) (defScope st) .none kV doc pm an cdv ct) := ⟨⟨oc, od, kV, doc, pm, an, cdv, ct, osl, rfl, l, c⟩, k⟩
end
theorem hu_of {A : Around} {k : Nat} (hr : Room k A) : A.units + 1 < cLine := Nat.lt_of_le_of_lt (Nat.add_le_add_left (by decide : 1 ≤ 64) _) hr.units
theorem small1000 {n : Nat} (h : n ≤ 1000) : n < sizeLine := Nat.lt_of_le_of_lt h (by decide)
section
variable {X : Cx}
theorem pv (i : Nat) {x : Str} {pos : Pos} (hN : X.N[i]? = some x := by rfl) (hv : Vis X.env.scope x := by first | exact Or.inl rfl | exact Or.inr (Or.inl rfl) | exact Or.inr (Or.inr rfl)) (hd : (x == ("__debug__" : Str)) = false := by decide)
    (hcd : (x == ("__classdict__" : Str)) = false := by decide) : PE X (.Name x pos) (tVar i) := pe_var hN hv hd hcd
end
theorem iteF {A B : Prop} (h : B) : if false = true then A else B := by
  rw [if_neg Bool.false_ne_true]
  exact h
theorem iteT {A B : Prop} (h : A) : if true = true then A else B := by
  rw [if_pos rfl]
  exact h
theorem iteNS {c A B : Prop} [Decidable c] (hc : c) (h : B) : if (!decide c) = true then A else B := by
  rw [decide_eq_true hc]
  exact iteF h
noncomputable def Same (H H' : Hp) : Prop := ∀ b o, H b = some o → H' b = some o
theorem Same.refl (H : Hp) : Same H H := fun _ _ h => h
theorem Same.trans {H H1 H2 : Hp} (a : Same H H1) (b : Same H1 H2) : Same H H2 := fun c o h => b c o (a c o h)
theorem Same.free {H H' : Hp} (e : Same H H') {l : Addr} (h : H' l = Option.none) : H l = Option.none := by
  cases q : H l with
  | none => rfl
  | some o =>
    rw [e l o q] at h
    cases h
theorem Same.seq {K : PySem.W.Frag} {H H' : Hp} {a : Addr} {xs : List V} (e : Same H H') (h : SqL K H a xs) : SqL K H' a xs := by
  rcases h with (h | ⟨o, h⟩) | h
  · exact .inl (.inl (e _ _ h))
  · exact .inl (.inr ⟨o, e _ _ h⟩)
  · exact .inr h
end L2
namespace L2
open PySem PySem.Spec PyProof.Rows
section
variable {κ : Type} [DecidableEq κ]
noncomputable def valV (kvs : List (κ × V)) (k : κ) : Option V := (kvs.find? fun kv => decide (kv.1 = k)).map (·.2)
noncomputable def putK (kvs : List (κ × V)) (k : κ) (v : V) : List (κ × V) :=
  if (kvs.any fun kv => decide (kv.1 = k)) = true then kvs.map (fun kv => if kv.1 = k then (kv.1, v) else kv) else kvs ++ [(k, v)]
theorem valV_pos {p : κ × V} {r : List (κ × V)} {k : κ} (e : p.1 = k) : valV (p :: r) k = some p.2 := by simp [valV, List.find?_cons, e]
theorem valV_neg {p : κ × V} {r : List (κ × V)} {k : κ} (e : ¬ p.1 = k) : valV (p :: r) k = valV r k := by simp [valV, List.find?_cons, e]
theorem valV_any (k : κ) : ∀ kvs : List (κ × V), (kvs.any fun kv => decide (kv.1 = k)) = (valV kvs k).isSome
  | [] => rfl
  | p :: r => by
    rw [List.any_cons]
    by_cases e : p.1 = k
    · simp only [valV_pos e, decide_eq_true e, Bool.true_or, Option.isSome_some]
    · rw [valV_neg e, decide_eq_false e, Bool.false_or]; exact valV_any k r
theorem length_putK (kvs : List (κ × V)) (k : κ) (v : V) : (putK kvs k v).length ≤ kvs.length + 1 := by
  unfold putK
  split
  · rw [List.length_map]; omega
  · rw [List.length_append, List.length_cons, List.length_nil]; omega
theorem RelO.isSome_eq {o : Option V} {u : Option Value} (r : RelO o u) : o.isSome = u.isSome := by
  cases o with
  | none => cases u with
    | none => rfl
    | some _ => exact (show False from r).elim
  | some _ => cases u with
    | none => exact (show False from r).elim
    | some _ => rfl
theorem KV.any {kvs : List (κ × V)} {vs : List (κ × Value)} (r : KV kvs vs) (k : κ) : (kvs.any fun kv => decide (kv.1 = k)) = vs.any fun kv => decide (kv.1 = k) := by
  unfold KV at r
  induction r with
  | nil => rfl
  | cons h t ih => rw [List.any_cons, List.any_cons, ih, h.1]
theorem KV.repl {kvs : List (κ × V)} {vs : List (κ × Value)} (r : KV kvs vs) (k : κ) {y : V} {u : Value} (ry : RelV y u) :
    KV (kvs.map fun kv => if kv.1 = k then (kv.1, y) else kv) (vs.map fun kv => if kv.1 = k then (kv.1, u) else kv) := by
  unfold KV at r ⊢
  induction r with
  | nil => exact .nil
  | @cons p q ps qs h t ih =>
    rw [List.map_cons, List.map_cons]
    refine .cons ?_ ih
    obtain ⟨h1, h2⟩ := h
    by_cases e : p.1 = k
    · rw [if_pos e, if_pos (h1.symm.trans e)]; exact ⟨h1, ry⟩
    · rw [if_neg e, if_neg (fun z => e (h1.trans z))]; exact ⟨h1, h2⟩
theorem KV.put {kvs : List (κ × V)} {vs : List (κ × Value)} (r : KV kvs vs) (k : κ) {y : V} {u : Value} (ry : RelV y u) : KV (putK kvs k y) (stored vs k u) := by
  unfold putK stored
  rw [r.any k]
  by_cases e : (vs.any fun kv => decide (kv.1 = k)) = true
  · rw [if_pos e, if_pos e]; exact r.repl k ry
  · rw [if_neg e, if_neg e]; exact Paired.snoc r ⟨rfl, ry⟩
theorem KV.length {kvs : List (κ × V)} {vs : List (κ × Value)} (r : KV kvs vs) : kvs.length = vs.length := Paired.length r
end
theorem kV_is {P : Program} {w : World} {k : Key} {u : Value} (r : RelV (kV k) u) : (mixKind P w).is k u = true := by
  cases k with
  | inl i => obtain ⟨t, e⟩ := (show ∃ t, u = Value.int i t from r); subst e; exact mixKind_int P w i t
  | inr x => obtain ⟨t, e⟩ := (show ∃ t, u = Value.str x t from r); subst e; exact mixKind_str P w x t
theorem items_are {P : Program} {w : World} : ∀ {ks : List Key} {us : List Value}, Vals (ks.map kV) us → ItemsAre (mixKind P w) ks us
  | [], _, r => by rw [List.map_nil] at r; cases r; exact .nil
  | k :: ks, _, r => by
    rw [List.map_cons] at r
    cases r with
    | cons h t => exact .cons (kV_is h) (items_are t)
noncomputable abbrev KT (H : Hp) : List (List Key × V) → List (List Key × Addr × Value) → Prop := Paired fun p q => p.1 = q.1 ∧ H q.2.1 = some (.tup (p.1.map kV)) ∧ RelV p.2 q.2.2
theorem KT.val {H : Hp} {kvs : List (List Key × V)} {xs : List (List Key × Addr × Value)} (r : KT H kvs xs) (k : List Key) : RelO (valV kvs k) ((atKey xs k).map (·.2)) := by
  induction r with
  | nil => exact True.intro
  | @cons p q ps qs h t ih =>
    obtain ⟨h1, _, h2⟩ := h
    by_cases e : p.1 = k
    · have e' : q.1 = k := h1.symm.trans e
      have b : atKey (q :: qs) k = some q.2 := by simp [atKey, List.find?_cons, e']
      rw [valV_pos e, b]; exact h2
    · have e' : ¬ q.1 = k := fun z => e (h1.trans z)
      have b : atKey (q :: qs) k = atKey qs k := by simp [atKey, List.find?_cons, e']
      rw [valV_neg e, b]; exact ih
theorem KT.repl {H : Hp} {kvs : List (List Key × V)} {xs : List (List Key × Addr × Value)} (r : KT H kvs xs) (k : List Key) {y : V} {u : Value} (ry : RelV y u) :
    KT H (kvs.map fun kv => if kv.1 = k then (kv.1, y) else kv) (xs.map (putAt k u)) := by
  induction r with
  | nil => exact .nil
  | @cons p q ps qs h t ih =>
    rw [List.map_cons, List.map_cons]
    refine .cons ?_ ih
    obtain ⟨h1, h2, h3⟩ := h
    unfold putAt
    by_cases e : p.1 = k
    · rw [if_pos e, if_pos (h1.symm.trans e)]; exact ⟨h1, h2, ry⟩
    · rw [if_neg e, if_neg (fun z => e (h1.trans z))]; exact ⟨h1, h2, h3⟩
theorem KT.put {H : Hp} {kvs : List (List Key × V)} {xs : List (List Key × Addr × Value)} (r : KT H kvs xs) (k : List Key) {b : Addr} {y : V} {u : Value} (hb : H b = some (.tup (k.map kV))) (ry : RelV y u) :
    KT H (putK kvs k y) (storedH xs k b u) := by
  have e : (kvs.any fun kv => decide (kv.1 = k)) = (atKey xs k).isSome := by
    rw [valV_any, (r.val k).isSome_eq, Option.isSome_map]
  unfold putK storedH
  rw [e]
  by_cases q : (atKey xs k).isSome = true
  · rw [if_pos q, if_pos q]; exact r.repl k ry
  · rw [if_neg q, if_neg q]; exact Paired.snoc r ⟨rfl, hb, ry⟩
theorem KT.keeps {H H' : Hp} {kvs : List (List Key × V)} {xs : List (List Key × Addr × Value)} (r : KT H kvs xs) (ht : ∀ b ys, H b = some (.tup ys) → H' b = some (.tup ys)) : KT H' kvs xs :=
  Paired.mapP r fun _ _ z => ⟨z.1, ht _ _ z.2.1, z.2.2⟩
section
variable {P : Program} {w : World} {H : Hp} {h : Heap} {a : Addr}
theorem rd_of {u : HO} (ok : HOk P w H h) (e : Rd H a u) : ObjOk P w H h a u := e.ok ok
theorem dk_rd {kvs : List (Key × V)} (ok : HOk P w H h) (e : Rd H a (.dK kvs)) : kvs.length ≤ sizeLine ∧ (a == sysModules) = false ∧ ∃ vs, KV kvs vs ∧ h.DictOf (mixKind P w) a vs :=
  show ObjOk P w H h a (.dK kvs) from rd_of ok e
theorem dk_of {kvs : List (Key × V)} (ok : HOk P w H h) (e : H a = some (.dK kvs)) : kvs.length ≤ sizeLine ∧ (a == sysModules) = false ∧ ∃ vs, KV kvs vs ∧ h.DictOf (mixKind P w) a vs := dk_rd ok (.inl e)
theorem key_of {ks : List Key} (ok : HOk P w H h) (e : H a = some (.tup (ks.map kV))) : (tupleKind (mixKind P w)).is h ks a := by
  obtain ⟨_, its, r, o, h1, h2, n, h3⟩ := (show ObjOk P w H h a (.tup (ks.map kV)) from ok a _ e)
  exact ⟨o, its.toArray, n, h1, h2, h3, by simpa using items_are r⟩
theorem dt_rd {kvs : List (List Key × V)} (ok : HOk P w H h) (e : Rd H a (.dT kvs)) : kvs.length ≤ sizeLine ∧ (a == sysModules) = false ∧
    ∃ xs, KT H kvs xs ∧ h.DictOfH (tupleKind (mixKind P w)) a xs := by
  obtain ⟨z, y, xs, r, o, es, ep, h1, h2, h3, h4, h5⟩ := (show ObjOk P w H h a (.dT kvs) from rd_of ok e)
  refine ⟨z, y, xs, r, o, es, ep, h1, h2, h3, h4, fun x hx => ?_, h5⟩
  have all : ∀ {l : List (List Key × V)} {m : List (List Key × Addr × Value)}, KT H l m → ∀ x ∈ m, (tupleKind (mixKind P w)).is h x.1 x.2.1 := by
    intro l m q
    induction q with
    | nil => intro x hx; exact nomatch hx
    | @cons p q ps qs hq t ih =>
      intro x hx
      rcases List.mem_cons.mp hx with e | hx
      · subst e
        exact key_of ok (by rw [← hq.1]; exact hq.2.1)
      · exact ih x hx
  exact all r x hx
theorem dt_of {kvs : List (List Key × V)} (ok : HOk P w H h) (e : H a = some (.dT kvs)) : kvs.length ≤ sizeLine ∧ (a == sysModules) = false ∧
    ∃ xs, KT H kvs xs ∧ h.DictOfH (tupleKind (mixKind P w)) a xs := dt_rd ok (.inl e)
end
noncomputable def DPut (H : Hp) (a : Addr) (y v : V) (H' : Hp) : Prop :=
  (∃ kvs k, H a = some (.dK kvs) ∧ y = kV k ∧ kvs.length < sizeLine ∧ H' = upd H a (.dK (putK kvs k v))) ∨
  ∃ kvs k b, H a = some (.dT kvs) ∧ y = .ref b ∧ H b = some (.tup (k.map kV)) ∧ kvs.length < sizeLine ∧ H' = upd H a (.dT (putK kvs k v))
theorem DPut.t {H : Hp} {a b : Addr} {kvs : List (List Key × V)} {k : List Key} {v : V} (e : H a = some (.dT kvs)) (eb : H b = some (.tup (k.map kV))) (hl : kvs.length < sizeLine) :
    DPut H a (.ref b) v (upd H a (.dT (putK kvs k v))) := .inr ⟨kvs, k, b, e, rfl, eb, hl, rfl⟩
section
variable {X : Cx} {pins : List (Addr × Obj)} {σ : St} {H : Hp} {s : Shared} {a : Addr} {y v : V} {u r : Value} {o : Option V} {A : Around} {E : Value → Shared → Prop}
theorem Inv.big (I : Inv X pins σ H s) : sysModules < s.heap.objs.size := by
  have h : mainGlobals < s.heap.objs.size := (I.mod.glob.keeps I.bk).lt
  exact Nat.lt_trans (by decide) h
theorem d_write {h' : Heap} {t' : Nat} {ob : HO} (I : Inv X pins σ H s) (mu : Mut (H a)) (hs : Heap.SameBut a s.heap h') (he : ∃ q, h'.get? a = some q) (new : ObjOk X.prog X.w (upd H a ob) h' a ob) :
    Inv X pins σ (upd H a ob) { s with heap := h', toks := t' } :=
  I.write (x := a) (e := a) mu (.inl rfl) (fun b q hb z => (hs.2 b hb).trans z) he new
theorem dk_new {P : Program} {w : World} {H' : Hp} {h' : Heap} {kvs : List (Key × V)} {vs : List (Key × Value)} (z : kvs.length ≤ sizeLine) (hd : (a == sysModules) = false) (rel : KV kvs vs) (dd : h'.DictOf (mixKind P w) a vs) :
    ObjOk P w H' h' a (.dK kvs) := ⟨z, hd, vs, rel, dd⟩
theorem d_setItem {H' : Hp} {Q : Unit → Shared → Prop} (hu : A.units + 1 < cLine) (I : Inv X pins σ H s) (g : DPut H a y v H') (ry : RelV y u) (rv : RelV v r) (h : ∀ s', Inv X pins σ H' s' → Q () s') :
    wpAny (model X.prog X.w) A (setItem (.ref a) u r) Q E s := by
  rcases g with ⟨kvs, k, e, ey, l, eH⟩ | ⟨kvs, k, b, e, ey, eb, l, eH⟩
  · subst ey eH
    obtain ⟨z, hd, vs, rel, dd⟩ := dk_of I.hok e
    have hz : vs.length ≤ sizeLine := by rw [← rel.length]; exact z
    have hl : (putK kvs k v).length ≤ sizeLine := by have := length_putK kvs k v; omega
    refine wpAny_setItem_pairs (hsz := hz) (kV_is ry) dd fun h' dd' hs => h _ ?_
    have he : ∃ q, h'.get? a = some q := let ⟨q, _, _, hq, _⟩ := dd'; ⟨q, hq⟩
    exact d_write I (by rw [e]; exact True.intro) hs he (dk_new hl hd (rel.put k rv) dd')
  · subst ey eH
    cases (show u = Value.ref b from ry)
    obtain ⟨z, hd, xs, rel, dd⟩ := dt_of I.hok e
    have hz : xs.length ≤ sizeLine := by rw [← Paired.length rel]; exact z
    have hl : (putK kvs k v).length ≤ sizeLine := by have := length_putK kvs k v; omega
    refine wpAny_setItem_heap (hsz := hz) (tupleKind_room_in1 hu) (key_of I.hok eb) dd fun h' dd' hs => h _ ?_
    obtain ⟨q, es, ep, hq, h2, h3, h4, _, h5⟩ := dd'
    refine d_write I (by rw [e]; exact True.intro) hs ⟨q, hq⟩ ⟨hl, hd, _, (rel.put k eb rv).keeps fun c ys ec => ?_, q, es, ep, hq, h2, h3, h4, h5⟩
    rw [upd_ne (ne_of ec e (fun z => nomatch z))]
    exact ec
end
section
variable {X : Cx} {pins : List (Addr × Obj)} {σ : St} {H : Hp} {s : Shared} {a : Addr} {kvs : List (Key × V)} {k : Key} {u : Value} {A : Around} {E : Value → Shared → Prop}
end
noncomputable def sDPut (td ty tv : TE) : TS := fun D σ H => tv σ H fun v H1 => td σ H1 fun x H2 => ty σ H2 fun y H3 => ∃ a H4, x = .ref a ∧ DPut H3 a y v H4 ∧ D.nx σ H4
section
variable {X : Cx} {o i e value : Expr} {pos pos' tpos : Pos} {td ty tv : TE}
theorem ps_dput (hu : X.A.units + 1 < cLine) (ho : PE X o td) (hi : PE X i ty) (hv : PE X value tv) (hs : swapsWith value (some (.Subscript o i pos')) pos.line X.env = pure false) :
    PS X (.Assign [.Subscript o i pos'] value pos) (sDPut td ty tv) := by
  intro pins s σ H D I h
  refine wpAny_Assign_Subscript (thn (hv pins s σ H _ I h) fun r s1 ⟨v, H1, I1, rv, q1⟩ => thn (ho pins s1 σ H1 _ I1 q1) fun u s2 ⟨x, H2, I2, rx, q2⟩ => thn (hi pins s2 σ H2 _ I2 q2) fun iv s3 ⟨y, H3, I3, ry, a, H4, ex, g, q3⟩ => ?_) hs
  subst ex
  obtain rfl : u = Value.ref a := rx
  exact d_setItem hu I3 g ry rv fun s4 I4 => ⟨σ, H4, I4, q3⟩
end
theorem dt_empty {P : Program} {w : World} {H : Hp} (h : Heap) (hb : sysModules < h.objs.size) : ObjOk P w H (h.push { cls := .type "dict", data := .dict #[] }) h.objs.size (.dT []) :=
  ⟨Nat.zero_le _, beq_eq_false_iff_ne.mpr (Ne.symm (Nat.ne_of_lt hb)), [], .nil, _, #[], 0, Heap.get?_push_size _ rfl, ⟨rfl, rfl, rfl⟩, rfl, rfl, List.nodup_nil⟩
noncomputable def tDNewT : TE := fun _ H Q => ∀ p, H p = none → Q (.ref p) (upd H p (.dT []))
section
variable {X : Cx} {pos : Pos}
theorem pe_dnewT : PE X (.Dict [] [] pos) tDNewT := fun pins s σ H Q I h =>
  wpAny_Dict_empty ⟨.ref s.heap.objs.size, _, I.laid (a := s.heap.objs.size) (o := .dT []) (t' := s.toks) (fun _ _ q => Heap.get?_push_of_some _ q) (Nat.le_refl _) (dt_empty s.heap I.big), rfl, h _ (I.hok.fresh (Nat.le_refl _))⟩
end
end L2
set_option maxHeartbeats 4000000
namespace L2
open PySem PySem.Spec PyProof.Rows
structure CompZ where
  cl : List (Str × Addr)
  C : Addr
  s : Shared
  H : Hp
  fp : List Addr
  pn : List (Addr × Obj)
noncomputable def compCx (X : Cx) (N : List Str) (scope : Scope) (Z : CompZ) : Cx where
 prog := X.prog
 w := X.w
 K := X.K
 mg := X.mg
 base := X.base
 A := X.A
 N := N
 s₀ := Z.s
 H₀ := Z.H
 env := compEnvC scope Z.cl Z.C X.env
 outer := X.stack
 stack := X.stack
 ex := Z.fp
 fn := fun _ => false
 calm := X.calm
 pn := Z.pn
 xe := fun _ _ => False
noncomputable def CompOk (ns : List (Str × NameKind)) (N : List Str) (scope : Scope) (frees : List (Str × Nat)) : Prop :=
 (∀ x ∈ scope.names, x.2 ≠ .cell ∧ (x.2 = .local → scope.names.lookup x.1 = some .local) ∧ (x.2 = .free → ns.lookup x.1 = some .cell ∨ ns.lookup x.1 = some .free)) ∧
 ∀ p ∈ frees, N[p.2]? = some p.1 ∧ scope.names.lookup p.1 = some .free ∧ (ns.lookup p.1 = some .cell ∨ ns.lookup p.1 = some .free)
instance (ns : List (Str × NameKind)) (N : List Str) (scope : Scope) (frees : List (Str × Nat)) : Decidable (CompOk ns N scope frees) := by unfold CompOk; infer_instance
noncomputable def σC (n : Nat) (frees : List (Str × Nat)) (σ : St) : St := List.replicate n none ++ frees.map fun p => (σ[p.2]?).join
theorem clos_ok {env : Env} {scope : Scope} (hf : ∀ x ∈ scope.names, x.2 = .free → ∃ c, env.cells.lookup x.1 = some c) :
  ∃ cl, closureFor scope env = pure cl ∧ (∀ x c, cl.lookup x = some c → env.cells.lookup x = some c) ∧ ∀ x, (x, NameKind.free) ∈ scope.names → ∃ c, cl.lookup x = some c := by
 have go : ∀ (names : List (Str × NameKind)) (cs : List (Str × Addr)), (∀ x ∈ names, x.2 = .free → ∃ c, env.cells.lookup x.1 = some c) → (∀ x c, cs.lookup x = some c → env.cells.lookup x = some c) →
   ∃ cl, (forIn names cs (fun (x : Str × NameKind) (r : List (Str × Addr)) => (if (x.2 == NameKind.free) = true then (do let a ← cellOf env x.1; pure (ForInStep.yield ((x.1, a) :: r))) else pure (ForInStep.yield r) : Sem (ForInStep (List (Str × Addr)))))) = pure cl ∧
    (∀ x c, cl.lookup x = some c → env.cells.lookup x = some c) ∧ (∀ x c, cs.lookup x = some c → ∃ c', cl.lookup x = some c') ∧ ∀ x, (x, NameKind.free) ∈ names → ∃ c, cl.lookup x = some c := by
  intro names
  induction names with
  | nil => intro cs _ h; exact ⟨cs, rfl, h, fun x c e => ⟨c, e⟩, fun x hx => nomatch hx⟩
  | cons y r ih =>
   intro cs hf h
   obtain ⟨n, k⟩ := y
   have hr : ∀ x ∈ r, x.2 = .free → ∃ c, env.cells.lookup x.1 = some c := fun x hx => hf x (List.mem_cons_of_mem _ hx)
   by_cases hk : k = .free
   ·subst hk
    obtain ⟨c, hc⟩ := hf (n, .free) List.mem_cons_self rfl
    have h2 : ∀ x c', ((n, c) :: cs).lookup x = some c' → env.cells.lookup x = some c' := fun x c' e => by
     rw [List.lookup_cons] at e
     cases hx : x == n with
     | true =>
      rw [hx] at e
      have : x = n := eq_of_beq hx
      cases e
      rw [this]; exact hc
     | false => rw [hx] at e; exact h x c' e
    obtain ⟨cl, e1, e2, e3, e4⟩ := ih ((n, c) :: cs) hr h2
    refine ⟨cl, ?_, e2, fun x c' e => ?_, fun x hx => ?_⟩
    ·rw [List.forIn_cons]
     have : cellOf env n = pure c := by unfold cellOf; rw [hc]
     simp only [beq_self_eq_true, if_true, this, pure_bind]
     exact e1
    ·cases hx : x == n with
     | true => exact e3 x c (by rw [List.lookup_cons, hx])
     | false => exact e3 x c' (by rw [List.lookup_cons, hx]; exact e)
    ·rcases List.mem_cons.mp hx with z | z
     ·cases z
      exact e3 n c (by rw [List.lookup_cons, beq_self_eq_true])
     ·exact e4 x z
   ·obtain ⟨cl, e1, e2, e3, e4⟩ := ih cs hr h
    refine ⟨cl, ?_, e2, e3, fun x hx => ?_⟩
    ·rw [List.forIn_cons]
     have hb : (k == NameKind.free) = false := by simpa using hk
     simp only [hb, Bool.false_eq_true, if_false, pure_bind]
     exact e1
    ·rcases List.mem_cons.mp hx with z | z
     ·cases z; exact absurd rfl hk
     ·exact e4 x z
 obtain ⟨cl, e1, e2, _, e4⟩ := go scope.names [] hf (fun x c e => by simp at e)
 refine ⟨cl, ?_, e2, e4⟩
 unfold closureFor
 first
  | (rw [e1]; rfl)
  | (simp only [e1]; rfl)
  | simp [e1]
theorem relabel_free {env : Env} : ∀ {names : List (Str × NameKind)} {x : Str}, names.lookup x = some .free →
  (names.map fun (n, k) => if (k == NameKind.free && env.scope.kind == .function && env.kindOf n == some .cell) then (n, NameKind.cell) else (n, k)).lookup x = some .cell ∨
  (names.map fun (n, k) => if (k == NameKind.free && env.scope.kind == .function && env.kindOf n == some .cell) then (n, NameKind.cell) else (n, k)).lookup x = some .free
 | [], _, h => by simp at h
 | (n, k) :: r, x, h => by
  have ih := @relabel_free env r x
  show List.lookup x ((if (k == NameKind.free && env.scope.kind == .function && env.kindOf n == some .cell) = true then (n, NameKind.cell) else (n, k)) :: _) = _ ∨ List.lookup x ((if (k == NameKind.free && env.scope.kind == .function && env.kindOf n == some .cell) = true then (n, NameKind.cell) else (n, k)) :: _) = _
  cases hx : x == n with
  | true =>
   simp only [List.lookup_cons, hx] at h
   cases h
   by_cases hc : (NameKind.free == NameKind.free && env.scope.kind == .function && env.kindOf n == some .cell) = true
   ·rw [if_pos hc]; left; rw [List.lookup_cons, hx]
   ·rw [if_neg hc]; right; rw [List.lookup_cons, hx]
  | false =>
   simp only [List.lookup_cons, hx] at h
   by_cases hc : (k == NameKind.free && env.scope.kind == .function && env.kindOf n == some .cell) = true
   ·rw [if_pos hc]; simp only [List.lookup_cons, hx]; exact ih h
   ·rw [if_neg hc]; simp only [List.lookup_cons, hx]; exact ih h
theorem relabel_back {env : Env} : ∀ {names : List (Str × NameKind)} {x : Str}, 
    ((names.map fun (n, k) => if (k == NameKind.free && env.scope.kind == .function && env.kindOf n == some .cell) then (n, NameKind.cell) else (n, k)).lookup x = some .cell ∨
     (names.map fun (n, k) => if (k == NameKind.free && env.scope.kind == .function && env.kindOf n == some .cell) then (n, NameKind.cell) else (n, k)).lookup x = some .free) →
    (x, NameKind.free) ∈ names ∨ (x, NameKind.cell) ∈ names
  | [], _, h => by simp at h
  | (n, k) :: r, x, h => by
    have ih := @relabel_back env r x
    replace h : List.lookup x ((if (k == NameKind.free && env.scope.kind == .function && env.kindOf n == some .cell) = true then (n, NameKind.cell) else (n, k)) :: _) = _ ∨ List.lookup x ((if (k == NameKind.free && env.scope.kind == .function && env.kindOf n == some .cell) = true then (n, NameKind.cell) else (n, k)) :: _) = _ := h
    cases hx : x == n with
    | true =>
      have e : x = n := eq_of_beq hx
      subst e
      by_cases hc : (k == NameKind.free && env.scope.kind == .function && env.kindOf x == some .cell) = true
      · have : k = .free := by
          simp only [Bool.and_eq_true] at hc
          exact eq_of_beq hc.1.1
        subst this
        exact .inl List.mem_cons_self
      · rw [if_neg hc] at h
        simp only [List.lookup_cons, hx, Option.some.injEq] at h
        rcases h with h | h
        · subst h; exact .inr List.mem_cons_self
        · subst h; exact .inl List.mem_cons_self
    | false =>
      have h' : _ := h
      by_cases hc : (k == NameKind.free && env.scope.kind == .function && env.kindOf n == some .cell) = true
      · rw [if_pos hc] at h; simp only [List.lookup_cons, hx] at h
        rcases ih h with z | z
        · exact .inl (List.mem_cons_of_mem _ z)
        · exact .inr (List.mem_cons_of_mem _ z)
      · rw [if_neg hc] at h; simp only [List.lookup_cons, hx] at h
        rcases ih h with z | z
        · exact .inl (List.mem_cons_of_mem _ z)
        · exact .inr (List.mem_cons_of_mem _ z)
section
variable {X : Cx} {pins : List (Addr × Obj)} {σ : St} {H2 : Hp} {s2 : Shared} {scope : Scope} {loc : List Str} {frees : List (Str × Nat)} {ns : List (Str × NameKind)} {N : List Str} {fp : List Addr} {cl : List (Str × Addr)}
theorem comp_start (I2 : Inv X pins σ H2 s2) (hns : X.env.scope.names = ns) (hN : X.N = N) (hk : scope.kind = .function) (ok : CompOk ns N scope frees) (f2 : ∀ b ∈ fp, FpOk X pins H2 b) (hlive : ∀ b ∈ fp, ∃ o, s2.heap.get? b = some o)
  (hc1 : ∀ x c, cl.lookup x = some c → X.env.cells.lookup x = some c) (hc2 : ∀ x, (x, NameKind.free) ∈ scope.names → ∃ c, cl.lookup x = some c)
  {C : Addr} {h4 : Heap} {tk : Nat} (hC : C = s2.heap.objs.size + 1) (hnsC : ∃ m, h4.Ns C m) (hacc : h4.get? s2.heap.objs.size = some { cls := .type "list", dict := none, data := .seq ([] : List Value).toArray })
  (hkeep : ∀ b o, s2.heap.get? b = some o → h4.get? b = some o) :
  Inv (compCx X (loc ++ frees.map (·.1)) scope ⟨cl, C, s2, H2, fp, X.pn ++ pins⟩) [] (σC loc.length frees σ) (upd H2 s2.heap.objs.size (.lst [])) { s2 with heap := h4, toks := tk } := by
 have below : ∀ {b : Addr} {o : Obj}, s2.heap.get? b = some o → b ≠ C := fun {b o} e z => by
  have := Heap.lt_size e
  rw [z, hC] at this
  exact Nat.lt_irrefl _ (Nat.lt_of_succ_lt this)
 have hl : H2 s2.heap.objs.size = none := I2.hok.fresh (Nat.le_refl _)
 have hCn : H2 C = none := I2.hok.fresh (by rw [hC]; exact Nat.le_succ _)
 have cne : ∀ x c, X.env.cells.lookup x = some c → ∃ o v, s2.heap.get? c = some o ∧ o.data = .cell v := fun x c e => by
  obtain ⟨v, o, ho, hd⟩ := I2.cell x c e
  exact ⟨o, v, ho, hd⟩
 obtain ⟨mC, hmC⟩ := hnsC
 have hCl : C ≠ s2.heap.objs.size := by rw [hC]; exact Nat.succ_ne_self _
 refine ⟨⟨I2.ok.mod, hk, I2.ok.glob, I2.ok.blt, ?_, fun x y c h1 h2 => I2.ok.inj x y c (hc1 x c h1) (hc1 y c h2), fun x hx => ?_, fun x c h => (Bool.false_ne_true h).elim, I2.ok.hd, I2.ok.frames, .inl rfl, fun b hb => ⟨?_, fun x c e z => ?_⟩, I2.bs, Nat.le_trans I2.ok.bsz I2.sz, fun b o e hb => ?_, fun b hb hfs => ?_, I2.stack, I2.stkFree⟩,
  rfl, I2.bare, ?_, ⟨mC, hmC, fun i x v h1 h2 h3 => ?_⟩, fun x c e => ?_, ?_, fun x c e => ?_, fun p hp => ?_, ?_, ?_⟩
 ·show s2.heap.objs.size ≤ C
  rw [hC]; exact Nat.le_succ _
 ·-- has
  have hx' : (relabel scope X.env).names.lookup x = some .cell ∨ (relabel scope X.env).names.lookup x = some .free := hx
  rcases relabel_back hx' with z | z
  ·exact hc2 x z
  ·exact absurd rfl (ok.1 _ z).1
 ·obtain ⟨o, ho⟩ := hlive b hb
  exact below ho
 ·exact (f2 b hb).2.2.2.2.1 x c (hc1 x c e) z
 ·rcases (f2 b hb).2.2.2.1 with z | z
  ·exact I2.ok.noex b o e z
  ·exact absurd (Nat.lt_of_lt_of_le (Heap.lt_size (I2.ok.bs b o e).1) z) (Nat.lt_irrefl _)
 ·rcases List.mem_cons.mp (I2.stkSub b hfs) with z | z
  ·exact (f2 b hb).2.1 z
  ·exact (f2 b hb).2.2.1 z
 ·exact Un.laid hkeep (Nat.le_refl _) hl
 ·-- loc
  have hi : ¬ i < loc.length := fun hlt => by
   unfold σC at h2
   rw [List.getElem?_append_left (by simpa using hlt), List.getElem?_replicate] at h2
   simp [hlt] at h2
  have h2' : (frees[i - loc.length]?).map (fun p => (σ[p.2]?).join) = some (some v) := by
   unfold σC at h2
   rw [List.getElem?_append_right (by simpa using hi), List.length_replicate, List.getElem?_map] at h2
   exact h2
  have h1' : (frees[i - loc.length]?).map (·.1) = some x := by
   have h1 : (loc ++ frees.map (·.1))[i]? = some x := h1
   rw [List.getElem?_append_right (by omega), List.getElem?_map] at h1
   exact h1
  cases ep : frees[i - loc.length]? with
  | none => rw [ep] at h1'; simp at h1'
  | some p =>
   rw [ep] at h1' h2'
   simp only [Option.map_some, Option.some.injEq] at h1' h2'
   obtain ⟨q1, q2, q3⟩ := ok.2 p (List.mem_of_getElem? ep)
   have hσ : σ[p.2]? = some (some v) := by
    cases e : σ[p.2]? with
    | none => rw [e] at h2'; simp at h2'
    | some o => rw [e] at h2'; simp at h2'; rw [h2']
   have vis : Vis X.env.scope p.1 := by
    show _ ∨ _
    rw [hns]; rcases q3 with z | z
    ·exact .inr (.inl z)
    ·exact .inr (.inr z)
   obtain ⟨m, hn, hlk⟩ := I2.loc
   obtain ⟨u, ru, lk⟩ := hlk p.2 p.1 v (by rw [hN]; exact q1) hσ vis
   refine ⟨u, ru, .inr ?_⟩
   rw [← h1']
   rcases lk with ⟨z, _⟩ | ⟨_, c, ec, hcell⟩
   ·have z' : X.env.scope.names.lookup p.1 = some .local := z
    rw [hns] at z'
    rcases q3 with y | y <;> rw [z'] at y <;> cases y
   ·obtain ⟨c', hc'⟩ := hc2 p.1 (PySem.mem_of_lookup q2)
    have : c' = c := by have := hc1 _ _ hc'; rw [ec] at this; exact (Option.some.inj this).symm
    subst this
    refine ⟨relabel_free q2, c', hc', ?_⟩
    obtain ⟨o, ho, hd⟩ := hcell
    exact ⟨o, hkeep _ _ ho, hd⟩
 ·obtain ⟨o, v, ho, hd⟩ := cne x c (hc1 x c e)
  exact ⟨v, o, hkeep _ _ ho, hd⟩
 ·show upd H2 _ _ C = none
  rw [upd_ne hCl]; exact hCn
 ·obtain ⟨o, v, ho, hd⟩ := cne x c (hc1 x c e)
  have : c ≠ s2.heap.objs.size := Nat.ne_of_lt (Heap.lt_size ho)
  rw [upd_ne this]
  exact I2.freeC x c (hc1 x c e)
 ·have hp' : p ∈ X.pn ++ pins := by
   rcases List.mem_append.mp hp with z | z
   ·exact z
   ·exact absurd z (by simp)
  obtain ⟨e, n, ne, nf, d⟩ := I2.pin p hp'
  refine ⟨hkeep _ _ e, ?_, below e, fun z => ?_, d⟩
  ·rw [upd_ne (Nat.ne_of_lt (Heap.lt_size e))]; exact n
  ·rcases List.mem_cons.mp (I2.stkSub p.1 z) with y | y
   ·exact ne y
   ·exact nf y
 ·exact I2.hok.laid hkeep (Nat.le_refl _) ⟨by simp, [], _, .nil, hacc⟩
 ·show (σC loc.length frees σ).length = (loc ++ frees.map (·.1)).length
  unfold σC
  simp
theorem comp_back {C : Addr} {H' : Hp} {s' : Shared} {σ' : St} {h' : Heap} {pl : List (Addr × Obj)} (I2 : Inv X pins σ H2 s2) (f2 : ∀ b ∈ fp, FpOk X pins H2 b) (hC : C = s2.heap.objs.size + 1)
  (J : Inv (compCx X N scope ⟨cl, C, s2, H2, fp, pl⟩) [] σ' H' s') (hs : Heap.SameBut C s'.heap h') : Inv X pins σ H' { s' with heap := h' } := by
 have I3 : Inv X pins σ H' s' := I2.call' (ch := fp) J.os J.base J.hok J.bare fun b hb => ⟨(f2 b hb).2.2.2.1, (f2 b hb).2.1, (f2 b hb).2.2.2.2.1, (f2 b hb).2.2.2.2.2⟩
 refine I3.turned (it := C) (t' := s'.toks) (fun b o hb e => (hs.2 b hb).trans e) J.free ?_ (.inr ?_) (fun x c e z => ?_) fun p hp z => ?_
 ·intro z
  have := I2.lt
  rw [← z, hC] at this; exact Nat.lt_irrefl _ (Nat.lt_of_succ_lt this)
 ·rw [hC]; exact Nat.le_trans I2.sz (Nat.le_succ _)
 ·obtain ⟨v, q⟩ := I2.cell x c e
  have := q.lt
  rw [z, hC] at this; exact Nat.lt_irrefl _ (Nat.lt_of_succ_lt this)
 ·have := Heap.lt_size (I2.pin p hp).1
  rw [z, hC] at this; exact Nat.lt_irrefl _ (Nat.lt_of_succ_lt this)
end
end L2
namespace L2
open PySem PySem.Spec PyProof.Rows
noncomputable abbrev TC := St → Hp → (St → Hp → Prop) → Prop
noncomputable def tForJ (J : It) (g : TG) (tb : TS) (D : Ends) (σ : St) (H : Hp) : Prop := ∃ W : Nat → Nat → St → Hp → Prop, (∃ m, W 0 m σ H) ∧ ∀ i m σ H, W i m σ H →
 (J.stop i H ∧ D.nx σ H) ∨ (J.go i H ∧ ∃ N : St → Hp → Prop, (∀ σ' H', N σ' H' → ∃ m', m' < m ∧ W (i + 1) m' σ' H') ∧ ∀ x H', J.yld i H x H' → g x σ H' fun σ2 H2 => tb { D with nx := N, ct := N, bk := D.nx } σ2 H2)
noncomputable def eC (Q : St → Hp → Prop) : Ends := { nx := Q, rt := fun _ _ => False }
noncomputable def tBodyC (tt : TT) (tb : TC) : TS := fun D σ H => tt σ H fun b H1 => if b = true then tb σ H1 D.nx else D.nx σ H1
noncomputable def tEmit (l : Addr) (te : TE) : TC := fun σ H Q => te σ H fun v H1 => ∃ xs, H1 l = some (.lst xs) ∧ xs.length < sizeLine ∧ Q σ (upd H1 l (.lst (xs ++ [v])))
noncomputable def tComp1 (wi : TI) (g : CompZ → TG) (tt : CompZ → TT) (te : CompZ → TE) (n : Nat) (frees : List (Str × Nat)) : TE := fun σ H Q => wi σ H fun J H1 => ∀ (Z : CompZ) (l : Addr), H1 l = none →
 tForJ J (g Z) (tBodyC (tt Z) (tEmit l (te Z))) (eC fun _ H' => Q (.ref l) H') (σC n frees σ) (upd H1 l (.lst []))
noncomputable def testsOf (ifs : List Expr) (env : Env) : Sem Bool := forIn ifs true fun c r => if r = true then do let ok ← isTrue c env (eval c env); pure (ForInStep.yield ok) else pure (ForInStep.yield r)
noncomputable def PTs (Y : Cx) (ifs : List Expr) (t : TT) : Prop := ∀ (pins : List (Addr × Obj)) (s : Shared) (σ : St) (H : Hp) (Q : Bool → Hp → Prop), Inv Y pins σ H s → t σ H Q →
 wpAny (model Y.prog Y.w) Y.A (testsOf ifs Y.env) (TP Y pins σ Q) Y.xe s
noncomputable def tAll : TT := fun _ H Q => Q true H
theorem pts_nil {Y : Cx} : PTs Y [] tAll := fun pins s σ H Q I h => wpAny_tests_nil ⟨H, I, h⟩
theorem pts_one {Y : Cx} {c : Expr} {t : TT} (hc : PT Y c t) : PTs Y [c] t := fun pins s σ H Q I h => wpAny_tests_one (hc pins s σ H Q I h)
noncomputable def PB (Y : Cx) (tail : (Unit → Sem Fin) → Sem Fin) (r : TC) : Prop := ∀ (pins : List (Addr × Obj)) (s : Shared) (σ : St) (H : Hp) (Q : St → Hp → Prop) (Q' : Fin → Shared → Prop) (k : Unit → Sem Fin), Inv Y pins σ H s → r σ H Q →
 (∀ σ' H' s', Inv Y pins σ' H' s' → Q σ' H' → wpAny (model Y.prog Y.w) Y.A (k ()) Q' (fun _ _ => False) s') → wpAny (model Y.prog Y.w) Y.A (tail k) Q' (fun _ _ => False) s
theorem nox_of {α : Type} {M : Model} {A : Around} {t : Sem α} {Q : α → Shared → Prop} {E E' : Value → Shared → Prop} {s : Shared} (h : wpAny M A t Q E s) (hx : E = fun _ _ => False) : wpAny M A t Q E' s := by
 subst hx
 exact wpAny_mono h (fun _ _ q => q) fun _ _ z => z.elim
noncomputable def tailEmit (elt : Expr) (acc : Value) (env : Env) (k : Unit → Sem Fin) : Sem Fin := (eval elt env >>= fun x => call (.builtin "list.append") [acc, x] >>= fun _ => pure ()) >>= k
theorem pb_emit {Y : Cx} {elt : Expr} {te : TE} {l : Addr} (hx : Y.xe = fun _ _ => False) (he : PE Y elt te) : PB Y (tailEmit elt (.ref l) Y.env) (tEmit l te) := by
 intro pins s σ H Q Q' k I h hk
 refine wpAny_bind (wpAny_bind (thn (nox_of (he pins s σ H _ I h) hx) fun v s1 ⟨x, H1, I1, r1, q1⟩ => ?_))
 obtain ⟨xs, e, hz, q⟩ := q1
 refine wpAny_bind (thn (nox_of (mt_append pins s1 σ H1 (.ref l) [x] (.ref l) [v] (fun _ H2 => Q σ H2) I1 rfl (.cons r1 .nil) ⟨l, xs, x, rfl, rfl, e, hz, q⟩) hx) fun u s2 ⟨y, H2, I2, r2, q2⟩ => ?_)
 exact wpAny_pure (hk σ H2 s2 I2 q2)
noncomputable def turnOf (e : Expr) (d : Nat) (it acc : Value) (env : Env) (tg iter : Expr) (ifs : List Expr) (tail : (Unit → Sem Fin) → Sem Fin) : Sem Fin :=
 standAt iter.pos >>= fun _ => pyNext it >>= fun r => match r with
  | none => pure (.done .next)
  | some v => letOwnedTupleGo tg it v >>= fun _ => assign tg env v >>= fun _ => testsOf ifs env >>= fun ok =>
   if ok = true then tail (fun _ => again (.compLoop e d it acc env)) else again (.compLoop e d it acc env)
theorem turn_1 (elt tg iter : Expr) (ifs : List Expr) (scope : Scope) (pos : Pos) (it acc : Value) (env : Env) :
  compTurn (.ListComp elt [⟨tg, iter, ifs, 0⟩] scope pos) 0 it acc env = turnOf (.ListComp elt [⟨tg, iter, ifs, 0⟩] scope pos) 0 it acc env tg iter ifs (tailEmit elt acc env) := by rfl
section
variable {Y : Cx}
theorem comp_loop {elt tg iter : Expr} {gens : List Comprehension} {scope : Scope} {pos : Pos} {d : Nat} {ifs : List Expr} {it l : Addr} {tail : (Unit → Sem Fin) → Sem Fin} {fp : List Addr} {tn : Nat → Heap → Prop} {J : It} {g : TG} {tt : TT} {tb : TC} {pins : List (Addr × Obj)} {σ : St} {H : Hp} {s : Shared} {Q : St → Hp → Prop}
  (hx : Y.xe = fun _ _ => False) (hc : Y.calm = true) (heq : compTurn (.ListComp elt gens scope pos) d (.ref it) (.ref l) Y.env = turnOf (.ListComp elt gens scope pos) d (.ref it) (.ref l) Y.env tg iter ifs tail) (hg : PG Y tg g) (ht : PTs Y ifs tt) (hb : PB Y tail tb)
  (I : Inv Y pins σ H s) (T : Turn Y.prog Y.w Y.K tg J fp it tn) (st : tn 0 s.heap) (f2 : ∀ b ∈ fp, FpOk Y pins H b) (h : tForJ J g (tBodyC tt tb) (eC Q) σ H) :
  codeAny (model Y.prog Y.w) Y.A (.compLoop (.ListComp elt gens scope pos) d (.ref it) (.ref l) Y.env) (fun r s' => r = .ok .next ∧ ∃ σ' H', Inv Y pins σ' H' s' ∧ Q σ' H') s := by
 obtain ⟨W, ⟨m0, w0⟩, turn⟩ := h
 have stat : ∀ {H' : Hp}, (∀ b ∈ fp, H' b = none) → ∀ b ∈ fp, FpOk Y pins H' b := fun hn b hb => ⟨hn b hb, (f2 b hb).2⟩
 refine codeAny_loop rfl (fun n s' => ∃ i σ' H', Inv Y pins σ' H' s' ∧ tn i s'.heap ∧ (∀ b ∈ fp, H' b = none) ∧ W i n σ' H') (fun n s3 hI => ?_) m0 ⟨0, σ, H, I, st, fun b hb => (f2 b hb).1, w0⟩
 obtain ⟨i, σ3, H3, I3, st3, fr3, w3⟩ := hI
 show wpAny _ Y.A ((compTurn (.ListComp elt gens scope pos) d (.ref it) (.ref l) Y.env).onRaise (fun x => do noteFrame x Y.env; theTreesLotGoes x)) _ _ s3
 refine wpAny_noted ?_
 rw [heq]
 unfold turnOf
 refine wpAny_bind (wpAny_standAt (wpAny_bind ?_))
 rcases turn i n σ3 H3 w3 with ⟨stop, qn⟩ | ⟨go, N, hN, step⟩
 ·refine thn (T.done Y rfl rfl rfl hc i pins s3 σ3 H3 _ I3 (stat fr3) st3 stop) fun r s4 ⟨hr, I4⟩ => ?_
  subst hr
  exact wpAny_pure ⟨rfl, σ3, H3, I4, qn⟩
 ·refine thn (T.item Y rfl rfl rfl hc i pins s3 σ3 H3 _ I3 (stat fr3) st3 go) fun r s4 ⟨u, hr, h4⟩ => ?_
  subst hr
  refine wpAny_bind (thn h4 fun _ s5 ⟨x, H5, I5, r5, y5, st5, fr5⟩ => ?_)
  have I5' := I5.pinned (stat fr5) (T.obj _ _ st5)
  refine wpAny_bind (thn (nox_of (hg _ s5 σ3 H5 x u _ I5' r5 (step x H5 y5)) hx) fun _ s6 ⟨σ6, H6, I6, q6⟩ => ?_)
  refine wpAny_bind (thn (nox_of (ht _ s6 σ6 H6 _ I6 q6) hx) fun ok s7 ⟨H7, I7, q7⟩ => ?_)
  have again : ∀ {σ7 : St} {H7 : Hp} {s7 : Shared}, Inv Y (pins ++ pinsAt fp s5.heap) σ7 H7 s7 → N σ7 H7 → ∃ m, m < n ∧ ∃ i σ' H', Inv Y pins σ' H' s7 ∧ tn i s7.heap ∧ (∀ b ∈ fp, H' b = none) ∧ W i m σ' H' := fun {σ7 H7 s7} I7 n7 => by
   obtain ⟨m', hm, w7⟩ := hN σ7 H7 n7
   refine ⟨m', hm, i + 1, σ7, H7, I7.unpinned, T.keep _ _ _ st5 fun b hb o e => (I7.pin (b, o) (List.mem_append_right _ (List.mem_append_right _ (mem_pinsAt hb e)))).1, fun b hb => ?_, w7⟩
   obtain ⟨o, e, d⟩ := T.obj _ _ st5 b hb
   exact (I7.pin (b, o) (List.mem_append_right _ (List.mem_append_right _ (mem_pinsAt hb e)))).2.1
  cases ok with
  | false =>
   rw [if_neg Bool.false_ne_true] at q7 ⊢
   exact wpAny_pure ⟨rfl, again I7 q7⟩
  | true =>
   rw [if_pos rfl] at q7 ⊢
   exact nox_of (hb _ s7 σ6 H7 _ _ _ I7 q7 fun σ8 H8 s8 I8 q8 => wpAny_pure ⟨rfl, again I8 q8⟩) rfl
end
section
variable {X : Cx} {scope : Scope} {loc : List Str} {frees : List (Str × Nat)} {ns : List (Str × NameKind)} {N : List Str} {pos : Pos}
theorem comp_core {e : Expr} {gs : List Comprehension} {g0 : Comprehension} {wi : TI} {tg iter : Expr} {R : CompZ → Addr → It → St → Hp → (Hp → Prop) → Prop} {use : Option (Value → Sem Unit)} {Q : Value → Shared → Prop} {newPos : Pos}
  (hcl : clausesOf e = g0 :: gs) (hg0 : g0.iter = iter) (hi : PI X tg iter wi) (hns : X.env.scope.names = ns) (hN : X.N = N) (hk : scope.kind = .function) (ok : CompOk ns N scope frees)
  (hs : ∀ x, foldedSetIterable iter X.env x = pure x) {pins : List (Addr × Obj)} {s : Shared} {σ : St} {H : Hp} {QH : Addr → Hp → Prop} (I : Inv X pins σ H s)
  (h : wi σ H fun J H1 => ∀ (Z : CompZ) (l : Addr), H1 l = none → R Z l J (σC loc.length frees σ) (upd H1 l (.lst [])) (QH l))
  (block : ∀ (Z : CompZ) (l it : Addr) (fp : List Addr) (tn : Nat → Heap → Prop) (J : It) (H4 : Hp) (s4 : Shared) (σ4 : St), Z.fp = fp → Inv (compCx X (loc ++ frees.map (·.1)) scope Z) [] σ4 H4 s4 → Turn X.prog X.w X.K tg J fp it tn → tn 0 s4.heap →
   (∀ b ∈ fp, FpOk (compCx X (loc ++ frees.map (·.1)) scope Z) [] H4 b) → R Z l J σ4 H4 (QH l) →
   codeAny (model X.prog X.w) X.A (.compStart e 0 (.ref it) (.ref l) (compEnvC scope Z.cl Z.C X.env)) (fun r s' => r = .ok .next ∧ ∃ σ' H', Inv (compCx X (loc ++ frees.map (·.1)) scope Z) [] σ' H' s' ∧ QH l H') s4)
  (fin : ∀ (l C : Addr) (H' : Hp) (s' : Shared), (∃ m, s'.heap.Ns C m) → Inv X pins σ H' s' → H' C = none → X.s₀.heap.objs.size ≤ C → C ≠ X.env.locals → (∀ x c, X.env.cells.lookup x = some c → c ≠ C) → (∀ h', Heap.SameBut C s'.heap h' → Inv X pins σ H' { s' with heap := h' }) → (∀ p ∈ X.pn ++ pins, p.1 ≠ C) → QH l H' →
   compPost (model X.prog X.w) X.A X.xe use Q (.ref l) C (.ok .next) s') :
  wpAny (model X.prog X.w) X.A (comprehension e scope X.env newPos (newList []) false (eval iter X.env) use) Q X.xe s := by
 obtain ⟨cl, hclos, hc1, hc2⟩ := clos_ok (env := X.env) (scope := scope) fun x hx hf => by
  refine I.ok.has x.1 ?_
  have := (ok.1 x hx).2.2 hf
  rw [← hns] at this
  exact this
 have hs' : ∀ x, foldedSetIterable g0.iter X.env x = pure x := by rw [hg0]; exact hs
 refine wpAny_comprehension_free hcl hs' hclos hk (fun x hx hl => (ok.1 x hx).2.1 hl) (thn (hi pins s σ H _ I h) fun v s1 h1 => thn h1 fun itv s2 h2 => ?_)
 obtain ⟨it, fp, tn, J, H2, e2, I2, T, st2, f2, q2⟩ := h2
 subst e2
 refine wpAny_newObj_type (wpAny_newFunctionEnv (fun x hx => (ok.1 x hx).1) (by intro y hy; simp at hy) (fun h₁ hns₁ hsb₁ => ?_) hk)
 dsimp only at hns₁ hsb₁ ⊢
 have hsz : (s2.heap.push { cls := .type "list", dict := none, data := .seq ([] : List Value).toArray }).objs.size = s2.heap.objs.size + 1 := Heap.size_push ..
 generalize hCeq : (s2.heap.push { cls := .type "list", dict := none, data := .seq ([] : List Value).toArray }).objs.size = C at hns₁ hsb₁ hsz ⊢
 have keep : ∀ b o, s2.heap.get? b = some o → h₁.get? b = some o := fun b o e => hsb₁.extBut b o (by rw [hsz]; exact Nat.ne_of_lt (Nat.lt_succ_of_lt (Heap.lt_size e))) (Heap.get?_push_of_some _ (Heap.get?_push_of_some _ e))
 have hacc : h₁.get? s2.heap.objs.size = some { cls := .type "list", dict := none, data := .seq ([] : List Value).toArray } :=
  hsb₁.extBut _ _ (by rw [hsz]; exact Nat.ne_of_lt (Nat.lt_succ_self _)) (Heap.get?_push_of_some _ (Heap.get?_push_size _ rfl))
 have live : ∀ b ∈ fp, ∃ o, s2.heap.get? b = some o := fun b hb => let ⟨o, ho, _⟩ := T.obj _ _ st2 b hb; ⟨o, ho⟩
 have J0 := comp_start (scope := scope) (loc := loc) (frees := frees) (tk := s2.toks + ([] : List (Str × Value)).length) I2 hns hN hk ok f2 live hc1 hc2 hsz ⟨_, hns₁⟩ hacc keep
 have hln : H2 s2.heap.objs.size = none := I2.hok.fresh (Nat.le_refl _)
 have B := block ⟨cl, C, s2, H2, fp, X.pn ++ pins⟩ s2.heap.objs.size it fp tn J _ _ _ rfl J0 T (T.keep _ _ _ st2 fun b _ o e => keep b o e) (fun b hb => by
  obtain ⟨o, ho⟩ := live b hb
  obtain ⟨z0, z1, z2, z3, z4, z5⟩ := f2 b hb
  refine ⟨?_, ?_, fun z => ?_, .inl hb, fun x c e => z4 x c (hc1 x c e), fun p hp => z5 p ?_⟩
  ·rw [upd_ne (Nat.ne_of_lt (Heap.lt_size ho))]; exact z0
  ·show b ≠ C
   rw [hsz]; exact Nat.ne_of_lt (Nat.lt_succ_of_lt (Heap.lt_size ho))
  ·rcases List.mem_cons.mp (I2.stkSub b z) with y | y
   ·exact z1 y
   ·exact z2 y
  ·rcases List.mem_append.mp hp with y | y
   ·exact y
   ·exact absurd y (by simp)) (q2 _ _ hln)
 refine codeAny_mono B fun r s' hr => ?_
 obtain ⟨rfl, σ', H', J', q'⟩ := hr
 obtain ⟨m', hm', _⟩ := J'.loc
 have hCl : C ≠ X.env.locals := fun z => by
  have := I2.lt
  rw [← z, hsz] at this; exact Nat.lt_irrefl _ (Nat.lt_of_succ_lt this)
 have hCc : ∀ x c, X.env.cells.lookup x = some c → c ≠ C := fun x c e z => by
  obtain ⟨v, q⟩ := I2.cell x c e
  have := q.lt
  rw [z, hsz] at this; exact Nat.lt_irrefl _ (Nat.lt_of_succ_lt this)
 have hCp : ∀ p ∈ X.pn ++ pins, p.1 ≠ C := fun p hp z => by
  have := Heap.lt_size (I2.pin p hp).1
  rw [z, hsz] at this; exact Nat.lt_irrefl _ (Nat.lt_of_succ_lt this)
 exact fin s2.heap.objs.size C H' s' ⟨m', hm'⟩ (by have := comp_back I2 f2 hsz J' (Heap.SameBut.refl C s'.heap); exact this) J'.free (by rw [hsz]; exact Nat.le_trans I2.sz (Nat.le_succ _)) hCl hCc (fun h' hs => comp_back I2 f2 hsz J' hs) hCp q'
theorem pe_comp1 {elt tg iter : Expr} {ifs : List Expr} {wi : TI} {g : CompZ → TG} {tt : CompZ → TT} {te : CompZ → TE} (ns : List (Str × NameKind)) (N : List Str) (loc : List Str) (frees : List (Str × Nat)) (hc : X.calm = true) (hi : PI X tg iter wi)
  (hns : X.env.scope.names = ns) (hN : X.N = N) (hk : scope.kind = .function) (ok : CompOk ns N scope frees)
  (hg : ∀ Z, PG (compCx X (loc ++ frees.map (·.1)) scope Z) tg (g Z)) (ht : ∀ Z, PTs (compCx X (loc ++ frees.map (·.1)) scope Z) ifs (tt Z)) (he : ∀ Z, PE (compCx X (loc ++ frees.map (·.1)) scope Z) elt (te Z))
  (hs : ∀ x, foldedSetIterable iter X.env x = pure x := by intro _; rfl) : PE X (.ListComp elt [⟨tg, iter, ifs, 0⟩] scope pos) (tComp1 wi g tt te loc.length frees) := by
 intro pins s σ H Q I h
 rw [eval_ListComp]
 refine comp_core (e := .ListComp elt [⟨tg, iter, ifs, 0⟩] scope pos) (g0 := ⟨tg, iter, ifs, 0⟩) (gs := []) (tg := tg) (iter := iter) (loc := loc) (R := fun Z l J σ H QH => tForJ J (g Z) (tBodyC (tt Z) (tEmit l (te Z))) (eC fun _ H' => QH H') σ H) (use := none) (QH := fun l H' => Q (.ref l) H') rfl rfl hi hns hN hk ok hs I h ?_ ?_
 ·intro Z l it fp tn J H4 s4 σ4 hfp I4 T st4 f4 q4
  have L := comp_loop (Y := compCx X (loc ++ frees.map (·.1)) scope Z) rfl hc (turn_1 elt tg iter ifs scope pos (.ref it) (.ref l) _) (hg Z) (ht Z) (pb_emit rfl (he Z)) I4 T st4 f4 q4
  refine codeAny_mono (codeAny_compStart_list L (T.self _ _ _ _ _ st4 L)) fun r s' hr => ?_
  exact hr
 ·intro l C H' s' hm J' hn h1 h2 h3 h4 _ q'
  obtain ⟨m, hm⟩ := hm
  exact ⟨m, hm, fun h' hs' => ⟨.ref l, H', h4 h' hs', rfl, q'⟩⟩
theorem ps_setC1 {i : Nat} {x : Str} {pos' apos : Pos} {elt tg iter : Expr} {ifs : List Expr} {wi : TI} {g : CompZ → TG} {tt : CompZ → TT} {te : CompZ → TE} (ns : List (Str × NameKind)) (N : List Str) (loc : List Str) (frees : List (Str × Nat)) (hc : X.calm = true) (hND : X.N.Nodup) (hix : X.N[i]? = some x) (hxl : X.env.scope.names.lookup x = some .local) (hi : PI X tg iter wi)
  (hns : X.env.scope.names = ns) (hN : X.N = N) (hk : scope.kind = .function) (ok : CompOk ns N scope frees)
  (hg : ∀ Z, PG (compCx X (loc ++ frees.map (·.1)) scope Z) tg (g Z)) (ht : ∀ Z, PTs (compCx X (loc ++ frees.map (·.1)) scope Z) ifs (tt Z)) (he : ∀ Z, PE (compCx X (loc ++ frees.map (·.1)) scope Z) elt (te Z))
  (hsw : swapsWith (.ListComp elt [⟨tg, iter, ifs, 0⟩] scope pos) (some (.Name x pos')) apos.line X.env = pure true := by rfl)
  (hs : ∀ x, foldedSetIterable iter X.env x = pure x := by intro _; rfl) : PS X (.Assign [.Name x pos'] (.ListComp elt [⟨tg, iter, ifs, 0⟩] scope pos) apos) (tAsg (tComp1 wi g tt te loc.length frees) (gName i)) := by
 intro pins s σ H D I h
 rw [exec_Assign_Name_used _ _ _ _ hsw]
 refine wpAny_bind (wpAny_standAt (wpAny_bind ?_))
 show wpAny _ X.A (do let _ ← comprehension (.ListComp elt [⟨tg, iter, ifs, 0⟩] scope pos) scope X.env _ (newList []) false (eval iter X.env) (some (assign (.Name x pos') X.env))) _ _ s
 refine wpAny_bind ?_
 have key := comp_core (X := X) (e := .ListComp elt [⟨tg, iter, ifs, 0⟩] scope pos) (g0 := ⟨tg, iter, ifs, 0⟩) (gs := []) (tg := tg) (iter := iter) (newPos := firstIterPos [⟨tg, iter, ifs, 0⟩] pos) (loc := loc) (R := fun Z l J σ H QH => tForJ J (g Z) (tBodyC (tt Z) (tEmit l (te Z))) (eC fun _ H' => QH H') σ H) (use := some (assign (.Name x pos') X.env)) (QH := fun l H' => D.nx (σ.set i (some (.ref l))) H') (Q := fun _ s' => SP X pins D .next s') rfl rfl hi hns hN hk ok hs I h ?_ ?_
 ·exact thn key fun _ s' hq => wpAny_pure (wpAny_pure hq)
 ·intro Z l it fp tn J H4 s4 σ4 hfp I4 T st4 f4 q4
  have L := comp_loop (Y := compCx X (loc ++ frees.map (·.1)) scope Z) rfl hc (turn_1 elt tg iter ifs scope pos (.ref it) (.ref l) _) (hg Z) (ht Z) (pb_emit rfl (he Z)) I4 T st4 f4 q4
  refine codeAny_mono (codeAny_compStart_list L (T.self _ _ _ _ _ st4 L)) fun r s' hr => ?_
  exact hr
 ·intro l C H' s' hm J' hn h1 h2 h3 h4 h5 q'
  obtain ⟨m, hm⟩ := hm
  show wpAny _ X.A (assign (.Name x pos') X.env (.ref l)) _ _ _
  refine wpAny_assign_Name (store_ok2 J' hND hix (.inl hxl) (v := .ref l) rfl (fun s'' I'' hsb => ?_) (.inr hxl))
  obtain ⟨a, hsb, ha⟩ := hsb
  have haC : C ≠ a := by
   rcases ha with z | z
   ·rw [z]; exact h2
   ·exact fun y => h3 x a z y.symm
  refine ⟨m, hm.sameBut hsb haC, fun h' hs' => ⟨_, H', ?_, q'⟩⟩
  exact I''.turned (it := C) (t' := s''.toks) (fun b o hb e => (hs'.2 b hb).trans e) hn h2 (.inr h1) h3 h5
end
end L2
namespace PySem
open Sem (wp)
open AutoSeq1 (wpAny_loadPart')
section
variable {prog : Program} {w : World} {A : Around} {E : Value → Shared → Prop} {s : Shared}
theorem nextOf_tuple_item {it l : Addr} {i : Nat} {items} {x : Value} {Q : Value → Shared → Prop} (hit : s.heap.IsTupleIter it l i)
  (hl : s.heap.IsTuple l items) (hx : items[i]? = some x)
  (hQ : ∀ h', h'.IsTupleIter it l (i + 1) → Heap.SameBut it s.heap h' → Q x { s with heap := h' }) :
  wpAny (model prog w) A (Builtin.SmallTypes.nextOf (.ref it)) Q E s := by
 obtain ⟨o, ho, hc, hd⟩ := id hit
 obtain ⟨ol, hol, _, nl, hdl⟩ := hl
 unfold Builtin.SmallTypes.nextOf
 refine wpAny_bind (wpAny_callSpecial?_slot (name := Str.ofString "__next__") hit.typeIs F.slot_tuple_iterator_next
  (wpAny_call_entry F.slot_tuple_iterator_next hit.typeIs F.entry_tuple_iterator_next ?_ (F.args_tuple_iterator_next_1 _)))
 show wpAny _ _ (field (.ref it) 0 >>= _) _ _ s
 refine wpAny_bind (wpAny_field ho hd (x := .ref l) rfl ?_)
 show wpAny _ _ (if (Value.ref l == Value.none) = true then _ else _) _ _ s
 rw [if_neg (show ¬ ((Value.ref l == Value.none) = true) from Bool.false_ne_true)]
 show wpAny _ _ (field (.ref it) 1 >>= _) _ _ s
 refine wpAny_bind (wpAny_field ho hd (x := .int i 0) rfl ?_)
 show wpAny _ _ (seqItems? (.ref l) >>= _) _ _ s
 refine wpAny_bind (wpAny_seqItems hol hdl ?_)
 simp only [Int.toNat_natCast, hx]
 refine wpAny_bind (wpAny_setField ho hd (by simp) (wpAny_pure ⟨x, rfl, wpAny_pure (hQ _ ?_ (Heap.SameBut.update ..))⟩))
 exact ⟨_, Heap.get?_update_self _ ho (Obj.isFreed_of_fields (Obj.data_mapFields hd _)), (Obj.cls_mapFields ..).trans hc, by
  rw [Obj.data_mapFields hd]; simp [rawInt]⟩
theorem nextOf_tuple_end {it l : Addr} {i : Nat} {items} {Q : Value → Shared → Prop} (hh : A.handled = none)
  (hit : s.heap.IsTupleIter it l i) (hl : s.heap.IsTuple l items) (hx : items[i]? = none)
  (hE : ∀ h' e, Heap.ExtBut it s.heap h' → (∃ o, h'.get? e = some o ∧ o.cls = .type "StopIteration") → E (.ref e) { s with heap := h' }) :
  wpAny (model prog w) A (Builtin.SmallTypes.nextOf (.ref it)) Q E s := by
 obtain ⟨o, ho, hc, hd⟩ := id hit
 obtain ⟨ol, hol, _, nl, hdl⟩ := hl
 unfold Builtin.SmallTypes.nextOf
 refine wpAny_bind (wpAny_callSpecial?_slot (name := Str.ofString "__next__") hit.typeIs F.slot_tuple_iterator_next
  (wpAny_call_entry F.slot_tuple_iterator_next hit.typeIs F.entry_tuple_iterator_next ?_ (F.args_tuple_iterator_next_1 _)))
 show wpAny _ _ (field (.ref it) 0 >>= _) _ _ s
 refine wpAny_bind (wpAny_field ho hd (x := .ref l) rfl ?_)
 show wpAny _ _ (if (Value.ref l == Value.none) = true then _ else _) _ _ s
 rw [if_neg (show ¬ ((Value.ref l == Value.none) = true) from Bool.false_ne_true)]
 show wpAny _ _ (field (.ref it) 1 >>= _) _ _ s
 refine wpAny_bind (wpAny_field ho hd (x := .int i 0) rfl ?_)
 show wpAny _ _ (seqItems? (.ref l) >>= _) _ _ s
 refine wpAny_bind (wpAny_seqItems hol hdl ?_)
 simp only [Int.toNat_natCast, hx]
 refine wpAny_bind (wpAny_rule (wpAny_bind (wpAny_setField ho hd (by simp) ?_)))
 show wpAny _ _ (newExc (.type "StopIteration") [] >>= _) _ _ _
 refine wpAny_bind ?_
 simp only [newExc, newTuple]
 refine wpAny_bind (wpAny_newObj_type ?_ (by size_fits))
 refine wpAny_bind (m := firstArgMember _ _) (wpAny_of_eq (a := Value.none) (by first | rfl | (simp only [firstArgMember]; rfl)) ?_)
 refine wpAny_newObj_type ?_ (by size_fits)
 simp only [raiseNew]
 refine wpAny_bind (wpAny_handled ?_)
 first | rw [show A.in1.handled = none from hh] | rw [hh]
 refine wpAny_bind (wpAny_pure (wpAny_throw ?_))
 exact hE _ _ (((Heap.SameBut.update ..).extBut.push _).push _) ⟨_, Heap.get?_push_size _ rfl, rfl⟩
end
theorem Draws.tuple {prog : Program} {w : World} {A : Around} (hh : A.handled = none) (it l : Addr) (hne : l ≠ it) (items : Array Value) :
  Draws prog w A it [it, l] items.size (fun i v => items[i]? = some v) (fun i h => h.IsTupleIter it l i ∧ h.IsTuple l items) where
 live := fun _ _ st => let ⟨o, ho, _⟩ := st.1; ⟨o, ho⟩
 frame := fun _ _ _ st hk => ⟨st.1.at fun o e => hk it (by simp) o e, let ⟨o, ho, r⟩ := st.2; ⟨o, hk l (by simp) o ho, r⟩⟩
 item := fun i s Q E hi st hQ => by
  refine nextOf_tuple_item st.1 st.2 (x := items[i]) (by simp [hi]) fun h' hit' hs' => ?_
  exact hQ _ h' s.toks (by simp [hi]) ⟨hit', let ⟨o, ho, r⟩ := st.2; ⟨o, (hs'.2 l hne).trans ho, r⟩⟩ hs'
 done := fun s Q E st hE => nextOf_tuple_end hh st.1 st.2 (by simp) hE
section
variable {prog : Program} {w : World} {A : Around} {E : Value → Shared → Prop} {s : Shared}
end
end PySem
namespace PySem
open Sem (wp)
open Builtin
open AutoSeq1 (wpAny_loadPart')
namespace F
theorem noFill_tuple_mul : fillsNumberSlot (.type "tuple") "mul" = pure false :=
 fillsNumberSlot_seq (id := "tuple.__mul__") (r := some (.builtin "tuple.__rmul__")) F.slot_tuple_mul.lookup (by decide +kernel) F.slot_tuple_rmul.lookup (by decide +kernel)
theorem repeat_tuple : seqRepeat? (.type "tuple") = pure (some (.builtin "tuple.__mul__")) := by
 unfold seqRepeat?
 rw [seqSlot_of (T := "tuple") (name := "__mul__") (id := "tuple.__mul__") F.slot_tuple_mul.lookup (by decide +kernel), seqSlot_of (T := "tuple") (name := "__rmul__") (id := "tuple.__rmul__") F.slot_tuple_rmul.lookup (by decide +kernel)]
 rfl
end F
theorem int___rmul___int_tuple (a : Int) (t : Tok) (l : Addr) (items : Array Value) (n : Nat) (dd : Option Addr) (sl : Array (Option Value)) :
  Meets (Builtin.«int.__rmul__» ⟨[.int a t, .ref l], []⟩) (fun _ R s => s.heap.get? l = some { cls := .type "tuple", dict := dd, data := .seq items n, slots := sl } ∧ R (.ok (.ret Value.notImplemented)) s) :=
 .of_wp fun prog w A R s h => by obtain ⟨hp, g, d, tk, os⟩ := s; obtain ⟨hl, h⟩ := h; wp_walk; exact ⟨_, rfl, h⟩
theorem tuple_mul1 (l : Addr) (items : Array Value) (n : Nat) (dd : Option Addr) (sl : Array (Option Value)) (x : Int) (u : Tok) (hc0 : (decide (x < -(2 ^ 63)) || decide (x ≥ 2 ^ 63)) = false) (hc1 : (items.isEmpty || x == 1) = true) :
  Meets (Builtin.«tuple.__mul__» ⟨[.ref l, .int x u], []⟩) (fun _ R s => s.heap.get? l = some { cls := .type "tuple", dict := dd, data := .seq items n, slots := sl } ∧ R (.ok (.ret (Value.ref l))) s) :=
 .of_wp fun prog w A R s h => by
  obtain ⟨hp, g, d, tk, os⟩ := s; obtain ⟨hl, h⟩ := h
  have f1 := AutoSeq1.idx_int; have f2 := AutoSeq1.sub_tuple_tuple
  wp_walk using wpAny_loadPart' hl
  refine wpAny_ite_false (decide_eq_false (by rw [hc0]; decide)) ?_
  wp_walk using wpAny_loadPart' hl
  exact ⟨_, rfl, h⟩
theorem tuple_mul2 (l : Addr) (items : Array Value) (n : Nat) (dd : Option Addr) (sl : Array (Option Value)) (x : Int) (u : Tok) (hc0 : (decide (x < -(2 ^ 63)) || decide (x ≥ 2 ^ 63)) = false) (hc1 : (items.isEmpty || x == 1) = false) (hc2 : (decide (x ≤ 0) || items.isEmpty) = true) :
  Meets (Builtin.«tuple.__mul__» ⟨[.ref l, .int x u], []⟩) (fun _ R s => s.heap.get? l = some { cls := .type "tuple", dict := dd, data := .seq items n, slots := sl } ∧ R (.ok (.ret (Value.ref s.heap.objs.size))) { s with heap := s.heap.push { cls := .type "tuple", data := .seq #[] } }) :=
 .of_wp fun prog w A R s h => by
  obtain ⟨hp, g, d, tk, os⟩ := s; obtain ⟨hl, h⟩ := h
  have f1 := AutoSeq1.idx_int; have f2 := AutoSeq1.sub_tuple_tuple
  wp_walk using wpAny_loadPart' hl
  refine wpAny_ite_false (decide_eq_false (by rw [hc0]; decide)) ?_
  wp_walk using wpAny_loadPart' hl
  exact ⟨_, rfl, h⟩
theorem tuple_mul3 (l : Addr) (items : Array Value) (n : Nat) (dd : Option Addr) (sl : Array (Option Value)) (x : Int) (u : Tok) (hc0 : (decide (x < -(2 ^ 63)) || decide (x ≥ 2 ^ 63)) = false) (hc1 : (items.isEmpty || x == 1) = false) (hc2 : (decide (x ≤ 0) || items.isEmpty) = false)
  (hc3 : ¬ (items.size : Int) * x > (2 ^ 63 - 1) / 8) (hc4 : Tuple.tupleTooMany ((items.size : Int) * x) = false) (hsz : (List.foldl (fun x1 x2 => x1 ++ x2) #[] (List.replicate x.toNat items)).size ≤ sizeLine) :
  Meets (Builtin.«tuple.__mul__» ⟨[.ref l, .int x u], []⟩) (fun _ R s => s.heap.get? l = some { cls := .type "tuple", dict := dd, data := .seq items n, slots := sl } ∧ R (.ok (.ret (Value.ref s.heap.objs.size))) { s with heap := s.heap.push { cls := .type "tuple", data := .seq (List.foldl (fun x1 x2 => x1 ++ x2) #[] (List.replicate x.toNat items)) } }) :=
 .of_wp fun prog w A R s h => by
  obtain ⟨hp, g, d, tk, os⟩ := s; obtain ⟨hl, h⟩ := h
  have f1 := AutoSeq1.idx_int; have f2 := AutoSeq1.sub_tuple_tuple
  wp_walk using wpAny_loadPart' hl
  refine wpAny_ite_false (decide_eq_false (by rw [hc0]; decide)) ?_
  wp_walk using wpAny_loadPart' hl
  refine wpAny_ite_false (decide_eq_false hc3) ?_
  refine wpAny_ite_false (decide_eq_false (by rw [hc4]; decide)) ?_
  dsimp only
  wp_walk using wpAny_loadPart' hl
  exact ⟨_, rfl, h⟩
section
variable {prog : Program} {w : World} {A : Around} {E : Value → Shared → Prop} {s : Shared} {a : Addr} {xs : Array Value} {k : Nat} {sl : Array (Option Value)}
end
end PySem
namespace PySem
open Sem (wp)
open Builtin
open AutoSeq1 (wpAny_loadPart')
section
variable {prog : Program} {w : World} {K : Type} [DecidableEq K] {knd : KeyKind prog w K} {A : Around} {E : Value → Shared → Prop} {R : Result → Shared → Prop}
end
end PySem
namespace L2
open PySem PySem.Spec PyProof.Rows
section
variable {X : Cx}
theorem call_isinst : CallR X (.builtin "isinstance") (fun xs H Q => ∃ x T t b, xs = [x, .ty T] ∧ TyOf X.K H x t ∧ PySem.W.kitOne X.K t (.type T) = some b ∧ Q (.bl b) H) := by
 intro pins s σ H xs us Q I r h
 obtain ⟨x, T, t, b, rfl, ty, e, q⟩ := h
 obtain ⟨u, w', rfl, rx, rT⟩ := vals2 r
 cases (show w' = Value.type T from rT)
 exact isinst_ok I rx ty e fun tk => ⟨.bl b, H, I.tok _, rfl, q⟩
theorem bools_of : ∀ {bs : List Bool} {us : List Value}, Vals (bs.map V.bl) us → LSm.BoolsAre us bs
 | [], _, .nil => .nil
 | b :: bs, _, .cons r t => by
  cases (show _ = Value.bool b from r)
  exact .cons b (bools_of t)
end
section
variable {X : Cx} {pins : List (Addr × Obj)} {σ : St} {H : Hp} {s : Shared}
theorem call_all (hc : X.calm = true) : CallR X (.builtin "all") (fun xs H Q => ∃ (p : Addr) (bs : List Bool), xs = [.ref p] ∧ SqL X.K H p (bs.map V.bl) ∧ Q (.bl (bs.all id)) H) := by
 intro pins s σ H xs us Q I r h
 obtain ⟨p, bs, rfl, hq, q⟩ := h
 obtain ⟨u, rfl, rx⟩ := vals1 r
 cases rx
 obtain ⟨its, rv, pl, hz⟩ := I.list hq
 have hb := bools_of rv
 have hlt : p < s.heap.objs.size := by obtain ⟨_, e, _⟩ := pl.isList; exact Heap.lt_size e
 refine call_all_walk (wpAny_pyIter_list pl.isList ?_)
 refine ⟨s.heap.objs.size, [s.heap.objs.size, p], [s.heap.objs.size], its.toArray.size, _, _, fun i => (bs[i]?).getD true, rfl, Walks.list (A := X.A.in1) (by simp [I.ok.hd hc]) _ p (Nat.ne_of_lt hlt) its.toArray, ⟨⟨_, Heap.get?_push_size _ rfl, rfl, rfl⟩, pl.isList.push _⟩, fun i v s' Q' E' hP hQ => ?_, fun h' tk hk => ?_⟩
 ·obtain ⟨b, e, rfl⟩ := hb.get i v (by simpa using hP)
  dsimp only at hQ; rw [e] at hQ
  exact wpAny_truthy_bool hQ
 ·have e : ((List.range its.toArray.size).all fun i => (bs[i]?).getD true) = bs.all id := by rw [List.size_toArray, hb.length, LSm.range_all]
  rw [e]
  exact ⟨.bl _, H, I.kept (h' := h') (t' := tk) (LSm.kept_iter hk), rfl, q⟩
theorem call_any (hc : X.calm = true) : CallR X (.builtin "any") (fun xs H Q => ∃ (p : Addr) (bs : List Bool), xs = [.ref p] ∧ SqL X.K H p (bs.map V.bl) ∧ Q (.bl (bs.any id)) H) := by
 intro pins s σ H xs us Q I r h
 obtain ⟨p, bs, rfl, hq, q⟩ := h
 obtain ⟨u, rfl, rx⟩ := vals1 r
 cases rx
 obtain ⟨its, rv, pl, hz⟩ := I.list hq
 have hb := bools_of rv
 have hlt : p < s.heap.objs.size := by obtain ⟨_, e, _⟩ := pl.isList; exact Heap.lt_size e
 refine call_any_walk (wpAny_pyIter_list pl.isList ?_)
 refine ⟨s.heap.objs.size, [s.heap.objs.size, p], [s.heap.objs.size], its.toArray.size, _, _, fun i => (bs[i]?).getD false, rfl, Walks.list (A := X.A.in1) (by simp [I.ok.hd hc]) _ p (Nat.ne_of_lt hlt) its.toArray, ⟨⟨_, Heap.get?_push_size _ rfl, rfl, rfl⟩, pl.isList.push _⟩, fun i v s' Q' E' hP hQ => ?_, fun h' tk hk => ?_⟩
 ·obtain ⟨b, e, rfl⟩ := hb.get i v (by simpa using hP)
  dsimp only at hQ; rw [e] at hQ
  exact wpAny_truthy_bool hQ
 ·have e : ((List.range its.toArray.size).any fun i => (bs[i]?).getD false) = bs.any id := by rw [List.size_toArray, hb.length, LSm.range_any]
  rw [e]
  exact ⟨.bl _, H, I.kept (h' := h') (t' := tk) (LSm.kept_iter hk), rfl, q⟩
theorem Inv.turnedL {fp : List Addr} {h' : Heap} {t' : Nat} (I : Inv X pins σ H s) (k : ∀ b o, b ∉ fp → s.heap.get? b = some o → h'.get? b = some o) (hf : ∀ b ∈ fp, FpOk X pins H b) : Inv X pins σ H { s with heap := h', toks := t' } := by
 have nfp : ∀ b u, H b = some u → b ∉ fp := fun b u e z => by rw [(hf b z).1] at e; cases e
 refine I.step (g' := s.gens) (d' := s.drawn) (ch := fp) (fun b hb => ⟨(hf b hb).2.2.2.1, (hf b hb).2.1, (hf b hb).2.2.2.2.1, (hf b hb).2.2.2.2.2⟩) (fun b o _ _ hc e _ => k b o hc e) (fun b o _ _ hc e _ => ⟨o.slots, k b o hc e⟩) (fun _ _ _ _ n => n) (fun b o hc e => ⟨o, k b o hc e⟩)
  (fun _ _ e => e) (fun _ _ _ e => e) (fun b ps e => ⟨#[], by rw [e]; simp⟩) (fun m hm => ?_) (fun b u e => ?_) I.bare
 ·obtain ⟨o, es, ep, ho, r⟩ := hm
  exact ⟨o, es, ep, k _ o (fun z => (hf _ z).2.1 rfl) ho, r⟩
 ·refine (I.hok b u e).stay (fun c v hc q => k c v ?_ q) (fun _ q => q) fun _ _ q => q
  rcases hc with z | z
  ·rw [z]; exact nfp b u e
  ·exact nfp c _ z
theorem Inv.turnLaid {fp : List Addr} {h' : Heap} {t' : Nat} {p : Addr} {o : HO} (I : Inv X pins σ H s) (k : ∀ b u, b ∉ fp → s.heap.get? b = some u → h'.get? b = some u) (hf : ∀ b ∈ fp, FpOk X pins H b) (hp : s.heap.objs.size ≤ p)
  (new : ObjOk X.prog X.w (upd H p o) h' p o) : Inv X pins σ (upd H p o) { s with heap := h', toks := t' } := by
 have nfp : ∀ b u, H b = some u → b ∉ fp := fun b u e z => by rw [(hf b z).1] at e; cases e
 have hn := I.hok.fresh hp
 have old : ∀ {b : Addr} {u : Obj}, s.heap.get? b = some u → b ≠ p := fun e => Nat.ne_of_lt (Nat.lt_of_lt_of_le (Heap.lt_size e) hp)
 refine I.step (g' := s.gens) (d' := s.drawn) (ch := fp) (fun b hb => ⟨(hf b hb).2.2.2.1, (hf b hb).2.1, (hf b hb).2.2.2.2.1, (hf b hb).2.2.2.2.2⟩) (fun b o _ _ hc e _ => k b o hc e) (fun b o _ _ hc e _ => ⟨o.slots, k b o hc e⟩) (fun b o _ e n => by rw [upd_ne (old e)]; exact n) (fun b o hc e => ⟨o, k b o hc e⟩)
  (fun b xs e => by rw [upd_ne (ne_of_none e hn)]; exact e) (fun b u xs e => by rw [upd_ne (ne_of_none e hn)]; exact e) (fun b ps e => ⟨#[], by rw [upd_ne (ne_of_none e hn), e]; simp⟩) (fun m hm => ?_) (fun b u e => ?_) I.bare
 ·obtain ⟨o, es, ep, ho, r⟩ := hm
  exact ⟨o, es, ep, k _ o (fun z => (hf _ z).2.1 rfl) ho, r⟩
 ·by_cases hb : b = p
  ·subst hb; rw [upd_same] at e; cases e; exact new
  ·rw [upd_ne hb] at e
   refine (I.hok b u e).stay (fun c v hc q => k c v ?_ q) (fun c q => by rw [upd_ne (ne_of_none q hn)]; exact q) fun c xs q => by rw [upd_ne (ne_of_none q hn)]; exact q
   rcases hc with z | z
   ·rw [z]; exact nfp b u e
   ·exact nfp c _ z
end
end L2
namespace L2
open PySem PySem.Spec PyProof.Rows
section
variable {X : Cx} {pins : List (Addr × Obj)} {σ : St} {H : Hp} {s : Shared}
noncomputable def NewTup (H : Hp) (ys : List V) (Q : VK) : Prop := ∀ p H', Same H H' → H' p = some (.tup ys) → Q (.ref p) H'
theorem same_upd {H : Hp} {p : Addr} {o : HO} (h : H p = none) : Same H (upd H p o) := fun b u e => by rw [upd_ne (ne_of_none e h)]; exact e
theorem NewTup.new {ys : List V} {Q : VK} {p : Addr} (h : NewTup H ys Q) (hp : H p = none) : Q (.ref p) (upd H p (.tup ys)) := h p _ (same_upd hp) upd_same
theorem NewTup.old {ys : List V} {Q : VK} {p : Addr} (h : NewTup H ys Q) (hp : H p = some (.tup ys)) : Q (.ref p) H := h p H (Same.refl H) hp
theorem Inv.newTup {ys : List V} {its : List Value} {Q : VK} (I : Inv X pins σ H s) (r : Vals ys its) (hz : ys.length ≤ sizeLine) (h : NewTup H ys Q) : EP X pins σ Q (.ref s.heap.objs.size) { s with heap := s.heap.push { cls := .type "tuple", data := .seq its.toArray } } :=
 ⟨.ref s.heap.objs.size, _, I.laid (t' := s.toks) (o := .tup ys) (fun b ob q => Heap.get?_push_of_some _ q) (Nat.le_refl _) ⟨hz, _, r, IsTup.new _ _⟩, rfl, h.new (I.hok.fresh (Nat.le_refl _))⟩
noncomputable def rCatU : R2 := fun x y H Q => ∃ a b xs ys, x = .ref a ∧ y = .ref b ∧ H a = some (.tup xs) ∧ H b = some (.tup ys) ∧ xs.length + ys.length ≤ sizeLine ∧ NewTup H (xs ++ ys) Q
theorem op_catU : OpR X (binaryOp .Add) rCatU := by
 intro pins s σ H x y v u Q I rx ry h
 obtain ⟨a, b, xs, ys, rfl, rfl, ha, hb, hz, q⟩ := h
 cases rx
 cases ry
 obtain ⟨its, r1, p1, _⟩ := I.tuple (SqT.of ha)
 obtain ⟨its2, r2, p2, _⟩ := I.tuple (SqT.of hb)
 by_cases hx : xs = []
 ·subst hx
  cases r1
  obtain ⟨⟨c1, d1, t1, l1⟩, ho, hc, n, hd⟩ := id p1
  obtain ⟨⟨c2, d2, t2, l2⟩, ho2, hc2, n2, hd2⟩ := id p2
  simp only at hc hd hc2 hd2
  subst hc hd hc2 hd2
  exact concat_meets ⟨_, ho, rfl⟩ ⟨_, ho2, rfl⟩ noFill_tuple_add seq_tuple_add PySem.F.slot_tuple_add PySem.F.entry_tuple_add (PySem.F.args_tuple_add_2 _ _) (tuple_addW0 a b _ _ n n2 d1 d2 l1 l2 (by simp)) ⟨ho, ho2, .ref b, H, I, rfl, q.old hb⟩
 ·refine HT.cat_tup p1 p2 (fun z => hx (r1.nil_iff.mp z)) (fun z => ⟨.ref a, H, I, rfl, ?_⟩) (fun z => I.newTup (r1.append r2) (by rw [List.length_append]; exact hz) q) (by rw [← r1.length, ← r2.length]; exact hz)
  have : ys = [] := r2.nil_iff.mp z
  subst this
  rw [List.append_nil] at q
  exact q.old ha
theorem slice_same {t sl : Addr} {items : Array Value} {vl vu : Value} {lo hi : Option Int} {Q : Value → Shared → Prop} {prog : Program} {w : World} {A : Around} {E : Value → Shared → Prop} (ht : IsTup s.heap t items) (hs : s.heap.IsSliceOf sl vl vu .none) (pl : IsPart vl lo) (pu : IsPart vu hi)
  (hw : HT.sIx items.size 0 lo = 0 ∧ HT.sIx items.size items.size hi = items.size) (h : Q (.ref t) s) : wpAny (model prog w) A (getItem (.ref t) (.ref sl)) Q E s := by
 obtain ⟨os, hos, hcs, hds⟩ := id hs
 have hTs : s.TypeIs (.ref sl) "slice" := ⟨os, hos, hcs⟩
 unfold getItem
 try with_reducible refine wpAny_holding ?_
 first | refine wpAny_bind (wpAny_pure ?_) | skip
 refine wpAny_bind (wpAny_sequenceKey ht.typeIs (by decide) (wpAny_bind (wpAny_callSpecial?_slot (name := Str.ofString "__getitem__") ht.typeIs PyProof.Rows.slot_tuple_getitem (wpAny_call_entry PyProof.Rows.slot_tuple_getitem ht.typeIs entry_tuple_getitem ?_ (args_tuple_getitem _ _)))))
 show wpAny _ _ (Builtin.Tuple.tupleItemsOf (.ref t) >>= _) _ _ s
 refine wpAny_bind (tupleItemsOf_ ht (wpAny_bind (wpAny_typeOf hTs ?_)))
 rw [if_pos (by decide)]
 refine wpAny_bind (HT.sliceApplied_gen hs pl pu ?_)
 have hyes : (((HT.sIx items.size 0 lo : Nat) : Int) == 0 && (1 : Int) == 1 && (HT.sIx items.size items.size hi - HT.sIx items.size 0 lo) == items.size) = true := by rw [hw.1, hw.2]; simp
 show wpAny _ _ (if (((HT.sIx items.size 0 lo : Nat) : Int) == 0 && (1 : Int) == 1 && (HT.sIx items.size items.size hi - HT.sIx items.size 0 lo) == items.size) = true then _ else _) _ _ s
 rw [if_pos hyes]
 obtain ⟨⟨c1, d1, t1, l1⟩, ho, hc, n, hd⟩ := id ht
 simp only at hc hd
 subst hc hd
 obtain ⟨hp, g, d, tk, osx⟩ := s
 wp_walk using AutoSeq1.wpAny_loadPart' ho
 all_goals first | exact ⟨_, rfl, h⟩ | exact ⟨_, rfl, wpAny_pure h⟩
noncomputable def rSlU : V → Option Int → Option Int → Hp → VK → Prop := fun x lo hi H Q => ∃ a xs, x = .ref a ∧ H a = some (.tup xs) ∧ NewTup H (cutV xs lo hi) Q
theorem sl_tupU : SlR X rSlU := by
 intro pins s σ H x v vl vu lo hi sl Q I rx hs pl pu h
 obtain ⟨a, xs, rfl, hx, q⟩ := h
 cases rx
 obtain ⟨its, r, ht, hz⟩ := I.tuple (SqT.of hx)
 have hlen : its.toArray.size = xs.length := by rw [List.size_toArray]; exact r.length.symm
 refine ⟨"tuple", _, PyProof.Rows.slot_tuple_getitem.lookup, ht.typeIs, ?_⟩
 by_cases hw : HT.sIx xs.length 0 lo = 0 ∧ HT.sIx xs.length xs.length hi = xs.length
 ·refine slice_same ht hs pl pu (by rw [hlen]; exact hw) ⟨.ref a, H, I, rfl, ?_⟩
  have : cutV xs lo hi = xs := by unfold cutV; rw [hw.1, hw.2]; simp
  rw [this] at q
  exact q.old hx
 ·refine HT.getItem_tuple_cut ht hs pl pu (by rw [hlen]; exact hw) ?_ (by rw [hlen]; exact hz)
  rw [hlen]
  exact I.newTup ((r.drop (HT.sIx xs.length 0 lo)).take (HT.sIx xs.length xs.length hi - HT.sIx xs.length 0 lo)) (Nat.le_trans (cutV_length xs lo hi) hz) q
noncomputable def rRepU : R2 := fun x y H Q => ∃ a k xs, x = .ref a ∧ y = .int k ∧ H a = some (.tup xs) ∧ -1000 ≤ k ∧ k ≤ 1000 ∧ xs.length ≤ 1000 ∧ NewTup H (List.replicate k.toNat xs).flatten Q
theorem op_repU : OpR X (binaryOp .Mult) rRepU := by
 intro pins s σ H x y v u Q I rx ry h
 obtain ⟨a, k, xs, rfl, rfl, ha, h1, h2, h3, q⟩ := h
 cases rx
 obtain ⟨t, rfl⟩ := ry
 obtain ⟨its, r, ht, hz⟩ := I.tuple (SqT.of ha)
 have hlen : its.length = xs.length := r.length.symm
 obtain ⟨⟨c1, d1, t1, l1⟩, ho, hc, n, hd⟩ := id ht
 simp only at hc hd
 subst hc hd
 have hc0 : (decide (k < -(2 ^ 63)) || decide (k ≥ 2 ^ 63)) = false := by simp only [Bool.or_eq_false_iff, decide_eq_false_iff_not]; omega
 have go : ∀ {S : PySem.Spec}, Meets (Builtin.«tuple.__mul__» ⟨[.ref a, .int k t], []⟩) S → S X.A (wants (EP X pins σ Q) X.xe) s → wpAny (model X.prog X.w) X.A (binaryOp .Mult (.ref a) (.int k t)) (EP X pins σ Q) X.xe s := fun M h =>
  wpAny_binaryOp_repeat_ref (T := "tuple") (U := "int") (by decide) ⟨_, ho, rfl⟩ (fun s' => typeIs_int s' k t) PySem.F.noFill_tuple_mul F.fills_int_mul F.slot_int_rmul PySem.F.repeat_tuple F.slot_int_index.lookup
   (call_meets F.slot_int_rmul (typeIs_int s k t) F.entry_int_rmul (F.args_int_rmul_2 _ _) (int___rmul___int_tuple k t a its.toArray n d1 l1) ⟨ho, rfl, ⟨_, ho, rfl⟩, call_meets F.slot_tuple_mul ⟨_, ho, rfl⟩ F.entry_tuple_mul (F.args_tuple_mul_2 _ _) M h⟩)
 have f0 : ∀ m : Nat, List.foldl (fun x1 x2 => x1 ++ x2) #[] (List.replicate m its.toArray) = (List.replicate m its).flatten.toArray := fun m => by
  have := foldl_rep its m []
  rw [List.nil_append] at this
  exact this
 by_cases h4 : (its.toArray.isEmpty || k == 1) = true
 ·refine go (tuple_mul1 a its.toArray n d1 l1 k t hc0 h4) ⟨ho, .ref a, H, I, rfl, ?_⟩
  have : (List.replicate k.toNat xs).flatten = xs := by
   rcases Bool.or_eq_true_iff.mp h4 with z | z
   ·have : xs = [] := by
     have : its = [] := by simpa using z
     rw [this] at r; cases r; rfl
    subst this; simp
   ·have : k = 1 := eq_of_beq z
    subst this; simp
  rw [this] at q
  exact q.old ha
 ·have h4' := Bool.eq_false_iff.mpr h4
  have hne : its.toArray.isEmpty = false := (Bool.or_eq_false_iff.mp h4').1
  by_cases h5 : k ≤ 0
  ·refine go (tuple_mul2 a its.toArray n d1 l1 k t hc0 h4' (by simp [h5])) ⟨ho, ?_⟩
   have : (List.replicate k.toNat xs).flatten = [] := by
    have : k.toNat = 0 := by omega
    rw [this]; rfl
   rw [this] at q
   exact I.newTup (its := []) .nil (by simp) q
  ·have hm : (its.length : Int) * k ≤ 1000 * 1000 := by
    have : (its.length : Int) ≤ 1000 := by omega
    exact Int.mul_le_mul this h2 (by omega) (by omega)
   refine go (tuple_mul3 a its.toArray n d1 l1 k t hc0 h4' (by simp [hne]; omega) (by rw [List.size_toArray]; omega) (by unfold Builtin.Tuple.tupleTooMany; rw [List.size_toArray, decide_eq_false_iff_not, sizeLine_eq]; omega) ?_) ⟨ho, ?_⟩
   ·rw [f0, List.size_toArray, len_rep, sizeLine_eq]
    have : k.toNat * its.length ≤ 1000 * 1000 := Nat.mul_le_mul (by omega) (by omega)
    omega
   ·rw [f0]
    refine I.newTup (r.rep k.toNat) ?_ q
    rw [len_rep, sizeLine_eq]
    have : k.toNat * xs.length ≤ 1000 * 1000 := Nat.mul_le_mul (by omega) (by omega)
    omega
end
end L2
namespace L2
open PySem PySem.Spec PyProof.Rows
section
variable {X : Cx} {pos : Pos}
end
end L2
namespace L2
open PySem PySem.Spec PyProof.Rows
section
variable {X : Cx} {pins : List (Addr × Obj)} {σ : St} {H : Hp} {s : Shared}
end
theorem FnOk.never {P : Program} {w : World} {K : PySem.W.Frag} {mg : Str → Option Value} {base : Heap} {CX : CXT} {k : Nat} {f : Addr} {fd : FuncData} {ps : List Str} : FnOk P w K mg base CX k f fd ps (fun _ _ _ _ => False) :=
 ⟨fun _ _ _ _ h => h.elim, fun _ _ _ _ _ _ _ _ _ _ _ _ _ h => h.elim⟩
section
variable {X : Cx} {es : List Expr} {te : TE} {t : TA}
theorem pa_c {c j pos} (he : PE X (.Constant c j pos) te) (hr : PA X es t) : PA X (.Constant c j pos :: es) (tCons te t) := pa_cons he hr rfl
theorem pa_v {x pos} (he : PE X (.Name x pos) te) (hr : PA X es t) : PA X (.Name x pos :: es) (tCons te t) := pa_cons he hr rfl
theorem pa_b {a o b pos} (he : PE X (.BinOp a o b pos) te) (hr : PA X es t) : PA X (.BinOp a o b pos :: es) (tCons te t) := pa_cons he hr rfl
theorem pa_k {f a k pos} (he : PE X (.Call f a k pos) te) (hr : PA X es t) : PA X (.Call f a k pos :: es) (tCons te t) := pa_cons he hr rfl
theorem pa_t {a k pos} (he : PE X (.Tuple a k pos) te) (hr : PA X es t) : PA X (.Tuple a k pos :: es) (tCons te t) := pa_cons he hr rfl
theorem pa_l {a pos} (he : PE X (.List a pos) te) (hr : PA X es t) : PA X (.List a pos :: es) (tCons te t) := pa_cons he hr rfl
theorem pa_s {a b pos} (he : PE X (.Subscript a b pos) te) (hr : PA X es t) : PA X (.Subscript a b pos :: es) (tCons te t) := pa_cons he hr rfl
theorem pa_lc {a b c pos} (he : PE X (.ListComp a b c pos) te) (hr : PA X es t) : PA X (.ListComp a b c pos :: es) (tCons te t) := pa_cons he hr rfl
end
@[irreducible] def PAq (X : Cx) (es : List Expr) (t : TA) : Prop := PA X es t
section
variable {X : Cx} {es : List Expr} {te : TE} {t : TA}
theorem pa_q (h : PAq X es t) : PA X es t := by unfold PAq at h; exact h
theorem pq_nil : PAq X [] tNil := by unfold PAq; exact pa_nil
theorem pq_i {i j pos} (hr : PAq X es t) : PAq X (.Constant (.int i) j pos :: es) (tCons (tC (.int i)) t) := by unfold PAq at *; exact pa_c pe_int hr
theorem pq_b {a o b pos} (he : PE X (.BinOp a o b pos) te) (hr : PAq X es t) : PAq X (.BinOp a o b pos :: es) (tCons te t) := by unfold PAq at *; exact pa_b he hr
end
@[irreducible] def PSsq (X : Cx) (st : List Stmt) (t : TS) : Prop := PSs X st t
section
variable {X : Cx} {es : List Expr} {t : TA} {tb : TE} {b : Expr} {p1 p2 p3 pos : Pos}
end
@[irreducible] def PEq (X : Cx) (e : Expr) (t : TE) : Prop := PE X e t
@[irreducible] def PSq (X : Cx) (st : Stmt) (t : TS) : Prop := PS X st t
section
variable {X : Cx} {es : List Expr} {t : TA} {te tb : TE} {b e : Expr} {p1 p2 p3 pos : Pos}
end
section
variable {X : Cx} {es : List Expr} {t : TA} {te : TE} {e : Expr} {p1 p3 : Pos}
theorem lstq (h : PAq X es t) : PEq X (.List es p1) (tLst t) := by unfold PEq; exact pe_lst (pa_q h)
theorem pq_lq {a pos} (he : PEq X (.List a pos) te) (hr : PAq X es t) : PAq X (.List a pos :: es) (tCons te t) := by unfold PEq at he; unfold PAq at *; exact pa_l he hr
end
end L2
namespace PySem
open Sem (wp)
section
variable {prog : Program} {w : World} {A : Around} {E : Value → Shared → Prop} {s : Shared}
structure ZipFar (z TI TO i1 i2 : Addr) (f1 f2 : List Addr) : Prop where
 z1 : z ∉ f1
 z2 : z ∉ f2
 o1 : TO ∉ f1
 o2 : TO ∉ f2
 c1 : i1 ∉ f2
 c2 : i2 ∉ f1
 Iz : TI ≠ z
 Oz : TO ≠ z
 iz : i1 ≠ z
 jz : i2 ≠ z
 IO : TI ≠ TO
 I1 : TI ≠ i1
 I2 : TI ≠ i2
 O1 : TO ≠ i1
 O2 : TO ≠ i2
 ij : i1 ≠ i2
theorem zipFar_new (n a b : Nat) (h1 : a < n) (h2 : b < n) : ZipFar (n + 4) (n + 2) (n + 3) n (n + 1) [n, a] [n + 1, b] := by
  constructor <;> intro h <;> first
    | (have h' : @Eq Nat _ _ := h; omega)
    | (rcases List.mem_cons.mp h with y | y
       · have y' : @Eq Nat _ _ := y; omega
       · have y' : @Eq Nat _ _ := List.mem_singleton.mp y; omega)
theorem zipD_item {z TI TO i1 i2 : Addr} {f1 f2 : List Addr} {n1 n2 k : Nat} {P1 P2 : Nat → Value → Prop} {S1 S2 : Nat → Heap → Prop} {a b : Value} {Q : Value → Shared → Prop} (D1 : Draws prog w A i1 f1 n1 P1 S1) (D2 : Draws prog w A i2 f2 n2 P2 S2) (D : ZipFar z TI TO i1 i2 f1 f2)
  (hz : IsZip s.heap z TI TO .none) (hTI : IsPair s.heap TI (.ref i1) (.ref i2)) (hTO : IsPair s.heap TO a b) (t1 : S1 k s.heap) (t2 : S2 k s.heap) (hk1 : k < n1) (hk2 : k < n2)
  (hQ : ∀ x y h' tk, P1 k x → P2 k y → IsZip h' z TI TO (rawInt s.heap.objs.size) → IsPair h' TO x y → S1 (k + 1) h' → S2 (k + 1) h' → IsPair h' s.heap.objs.size x y →
   (∀ c o, c ≠ z → c ≠ TO → c ≠ i1 → c ≠ i2 → s.heap.get? c = some o → h'.get? c = some o) → Q (.ref s.heap.objs.size) { s with heap := h', toks := tk }) :
  wpAny (model prog w) A (Builtin.«zip.__next__» ⟨[.ref z], []⟩) (fun fin s' => ∃ v, fin = .done (.ret v) ∧ Q v s') E s := by
 show wpAny _ _ (field (.ref z) 2 >>= _) _ _ _; refine wpAny_bind (wpAny_field hz rfl (x := .bool false) rfl ?_); show wpAny _ _ (field (.ref z) 3 >>= _) _ _ _
 refine wpAny_bind (wpAny_field hz rfl (x := .ref TI) rfl (wpAny_bind (wpAny_seqItems hTI rfl ?_)))
 show wpAny _ _ (Builtin.SmallTypes.ownedTupleIsFree (.ref z) >>= _) _ _ _; refine wpAny_bind ?_; unfold Builtin.SmallTypes.ownedTupleIsFree
 refine wpAny_bind (wpAny_field hz rfl (x := .none) rfl (wpAny_pure ?_)); simp only [if_true]
 refine wpAny_bind (wpAny_rule (wpAny_bind (wpAny_field hz rfl (x := .ref TO) rfl (wpAny_bind (wpAny_setField_rec hz (by simp) fun h₁ hz₁ hs₁ => ?_)))))
 replace hz₁ : IsZip h₁ z TI TO .ellipsis := hz₁
 refine wpAny_bind ?_; simp only [List.zipIdx_cons, List.zipIdx_nil, List.forIn_cons, List.forIn_nil]
 refine wpAny_bind (wpAny_bind (wpAny_onRaise ?_)); show wpAny _ _ (Builtin.SmallTypes.nextOf (.ref i1) >>= _) _ _ _
 have u1 : S1 k h₁ := D1.frame k _ _ t1 fun c hc o e => hs₁.extBut _ _ (fun q => D.z1 (q ▸ hc)) e
 refine wpAny_bind (D1.item k _ _ _ hk1 u1 fun x h₂ tk₂ hx v1 hs₂ => wpAny_pure ?_)
 have hTO₂ : IsPair h₂ TO a b := hs₂.extBut _ _ D.O1 (hs₁.extBut _ _ D.Oz hTO)
 refine wpAny_bind (wpAny_seqItems hTO₂ rfl (wpAny_bind (wpAny_updateSeq_pair hTO₂ fun h₃ hTO₃ hs₃ => ?_)))
 replace hTO₃ : IsPair h₃ TO x b := hTO₃
 refine wpAny_bind (wpAny_letGo (wpAny_pure ?_)); refine wpAny_bind (wpAny_bind (wpAny_onRaise ?_)); show wpAny _ _ (Builtin.SmallTypes.nextOf (.ref i2) >>= _) _ _ _
 have u2 : S2 k h₃ := D2.frame k _ _ t2 fun c hc o e => hs₃.extBut _ _ (fun q => D.o2 (q ▸ hc)) (hs₂.extBut _ _ (fun q => D.c1 (q ▸ hc)) (hs₁.extBut _ _ (fun q => D.z2 (q ▸ hc)) e))
 refine wpAny_bind (D2.item k _ _ _ hk2 u2 fun y h₄ tk₄ hy v2 hs₄ => wpAny_pure ?_)
 have hTO₄ : IsPair h₄ TO x b := hs₄.extBut _ _ D.O2 hTO₃
 refine wpAny_bind (wpAny_seqItems hTO₄ rfl (wpAny_bind (wpAny_updateSeq_pair hTO₄ fun h₅ hTO₅ hs₅ => ?_)))
 replace hTO₅ : IsPair h₅ TO x y := hTO₅
 refine wpAny_bind (wpAny_letGo (wpAny_pure (wpAny_pure ?_))); refine wpAny_bind (wpAny_seqItems hTO₅ rfl (wpAny_bind (wpAny_newTuple ?_)))
 have hsz : h₅.objs.size = s.heap.objs.size := by rw [hs₅.1, hs₄.1, hs₃.1, hs₂.1, hs₁.1]
 have hz₅ : IsZip h₅ z TI TO .ellipsis := hs₅.extBut _ _ D.Oz.symm (hs₄.extBut _ _ D.jz.symm (hs₃.extBut _ _ D.Oz.symm (hs₂.extBut _ _ D.iz.symm hz₁)))
 have hk₅ : ∀ c o, c ≠ z → c ≠ TO → c ≠ i1 → c ≠ i2 → s.heap.get? c = some o → h₅.get? c = some o := fun c o e1 e2 e3 e4 e => hs₅.extBut _ _ e2 (hs₄.extBut _ _ e4 (hs₃.extBut _ _ e2 (hs₂.extBut _ _ e3 (hs₁.extBut _ _ e1 e))))
 have w1 : S1 (k + 1) h₅ := D1.frame _ _ _ v1 fun c hc o e => hs₅.extBut _ _ (fun q => D.o1 (q ▸ hc)) (hs₄.extBut _ _ (fun q => D.c2 (q ▸ hc)) (hs₃.extBut _ _ (fun q => D.o1 (q ▸ hc)) e))
 have w2 : S2 (k + 1) h₅ := D2.frame _ _ _ v2 fun c hc o e => hs₅.extBut _ _ (fun q => D.o2 (q ▸ hc)) e
 have hzlt : z < h₅.objs.size := Heap.lt_size hz₅
 show wpAny _ _ (Builtin.SmallTypes.ownedTupleHandOut (.ref z) (.ref h₅.objs.size) >>= _) _ _ _; refine wpAny_bind ?_; unfold Builtin.SmallTypes.ownedTupleHandOut
 have hz₆ : IsZip (h₅.push { cls := .type "tuple", data := .seq #[x, y] }) z TI TO .ellipsis := Heap.get?_push_of_some _ hz₅
 refine wpAny_bind (wpAny_setField_rec hz₆ (by simp) fun h₇ hz₇ hs₇ => ?_); replace hz₇ : IsZip h₇ z TI TO (rawInt h₅.objs.size) := hz₇
 refine wpAny_setField_rec hz₇ (by simp) fun h₈ hz₈ hs₈ => ?_; replace hz₈ : IsZip h₈ z TI TO (rawInt h₅.objs.size) := hz₈
 have up : ∀ c o, c ≠ z → h₅.get? c = some o → h₈.get? c = some o := fun c o e1 e => hs₈.extBut _ _ e1 (hs₇.extBut _ _ e1 (Heap.get?_push_of_some _ e))
 have hT₈ : IsPair h₈ h₅.objs.size x y := hs₈.extBut _ _ (Nat.ne_of_gt hzlt) (hs₇.extBut _ _ (Nat.ne_of_gt hzlt) (Heap.get?_push_size _ rfl))
 rw [hsz] at hz₈ hT₈
 refine wpAny_pure ⟨_, rfl, ?_⟩; show Q (.ref h₅.objs.size) _; rw [hsz]
 exact hQ x y h₈ _ hx hy hz₈ (up _ _ D.Oz hTO₅) (D1.frame _ _ _ w1 fun c hc o e => up c o (fun q => D.z1 (q ▸ hc)) e) (D2.frame _ _ _ w2 fun c hc o e => up c o (fun q => D.z2 (q ▸ hc)) e) hT₈ fun c o e1 e2 e3 e4 e => up c o e1 (hk₅ c o e1 e2 e3 e4 e)
theorem zipD_end {z TI TO i1 i2 : Addr} {f1 f2 : List Addr} {n1 : Nat} {P1 : Nat → Value → Prop} {S1 : Nat → Heap → Prop} {Q : Fin → Shared → Prop} (D1 : Draws prog w A i1 f1 n1 P1 S1) (D : ZipFar z TI TO i1 i2 f1 f2)
  (hz : IsZip s.heap z TI TO .none) (hTI : IsPair s.heap TI (.ref i1) (.ref i2)) (t1 : S1 n1 s.heap)
  (hE : ∀ h' e, (∀ c o, c ≠ z → c ≠ i1 → s.heap.get? c = some o → h'.get? c = some o) → (∃ o, h'.get? e = some o ∧ o.cls = .type "StopIteration") → E (.ref e) { s with heap := h' }) :
  wpAny (model prog w) A (Builtin.«zip.__next__» ⟨[.ref z], []⟩) Q E s := by
 show wpAny _ _ (field (.ref z) 2 >>= _) _ _ _; refine wpAny_bind (wpAny_field hz rfl (x := .bool false) rfl ?_); show wpAny _ _ (field (.ref z) 3 >>= _) _ _ _
 refine wpAny_bind (wpAny_field hz rfl (x := .ref TI) rfl (wpAny_bind (wpAny_seqItems hTI rfl ?_)))
 show wpAny _ _ (Builtin.SmallTypes.ownedTupleIsFree (.ref z) >>= _) _ _ _; refine wpAny_bind ?_; unfold Builtin.SmallTypes.ownedTupleIsFree
 refine wpAny_bind (wpAny_field hz rfl (x := .none) rfl (wpAny_pure ?_)); simp only [if_true]
 refine wpAny_bind (wpAny_rule (wpAny_bind (wpAny_field hz rfl (x := .ref TO) rfl (wpAny_bind (wpAny_setField_rec hz (by simp) fun h₁ hz₁ hs₁ => ?_)))))
 replace hz₁ : IsZip h₁ z TI TO .ellipsis := hz₁
 refine wpAny_bind ?_; simp only [List.zipIdx_cons, List.zipIdx_nil, List.forIn_cons, List.forIn_nil]
 refine wpAny_bind (wpAny_bind (wpAny_onRaise ?_)); show wpAny _ _ (Builtin.SmallTypes.nextOf (.ref i1) >>= _) _ _ _
 have u1 : S1 n1 h₁ := D1.frame n1 _ _ t1 fun c hc o e => hs₁.extBut _ _ (fun q => D.z1 (q ▸ hc)) e
 refine wpAny_bind (D1.done _ _ _ u1 fun h₂ e hs₂ he => ?_)
 obtain ⟨oe, hoe, hce⟩ := he
 have hz₂ : IsZip h₂ z TI TO .ellipsis := hs₂ _ _ D.iz.symm hz₁
 have hez : e ≠ z := fun x => by subst x; rw [hz₂] at hoe; cases hoe; simp at hce
 refine wpAny_setField_rec hz₂ (by simp) fun h₃ _ hs₃ => hE h₃ e (fun c o c1 c3 x => hs₃.extBut _ _ c1 (hs₂ _ _ c3 (hs₁.extBut _ _ c1 x))) ⟨oe, hs₃.extBut _ _ hez hoe, hce⟩
theorem nextZ_item {z TI TO i1 i2 : Addr} {f1 f2 : List Addr} {n1 n2 k : Nat} {P1 P2 : Nat → Value → Prop} {S1 S2 : Nat → Heap → Prop} {a b : Value} {Q : Option Value → Shared → Prop} (D1 : Draws prog w A.in1 i1 f1 n1 P1 S1) (D2 : Draws prog w A.in1 i2 f2 n2 P2 S2) (D : ZipFar z TI TO i1 i2 f1 f2)
  (hz : IsZip s.heap z TI TO .none) (hTI : IsPair s.heap TI (.ref i1) (.ref i2)) (hTO : IsPair s.heap TO a b) (t1 : S1 k s.heap) (t2 : S2 k s.heap) (hk1 : k < n1) (hk2 : k < n2)
  (hQ : ∀ x y h' tk, P1 k x → P2 k y → IsZip h' z TI TO (rawInt s.heap.objs.size) → IsPair h' TO x y → S1 (k + 1) h' → S2 (k + 1) h' → IsPair h' s.heap.objs.size x y →
   (∀ c o, c ≠ z → c ≠ TO → c ≠ i1 → c ≠ i2 → s.heap.get? c = some o → h'.get? c = some o) → Q (some (.ref s.heap.objs.size)) { s with heap := h', toks := tk }) :
  wpAny (model prog w) A (pyNext (.ref z)) Q E s := by
 have hT : s.TypeIs (.ref z) "zip" := ⟨_, hz, rfl⟩
 unfold pyNext
 exact wpAny_bind (wpAny_attempt (wpAny_callSpecial?_slot (name := Str.ofString "__next__") hT F.slot_zip_next (wpAny_call_entry F.slot_zip_next hT F.entry_zip_next
   (zipD_item D1 D2 D hz hTI hTO t1 t2 hk1 hk2 fun x y h' tk q1 q2 a1 a2 a3 a4 a5 a6 => wpAny_pure (hQ x y h' tk q1 q2 a1 a2 a3 a4 a5 a6)) (F.args_zip_next_1 _))))
theorem nextZ_end {z TI TO i1 i2 : Addr} {f1 f2 : List Addr} {n1 : Nat} {P1 : Nat → Value → Prop} {S1 : Nat → Heap → Prop} {Q : Option Value → Shared → Prop} (D1 : Draws prog w A.in1 i1 f1 n1 P1 S1) (D : ZipFar z TI TO i1 i2 f1 f2)
  (hz : IsZip s.heap z TI TO .none) (hTI : IsPair s.heap TI (.ref i1) (.ref i2)) (t1 : S1 n1 s.heap)
  (hQ : ∀ h', (∀ c o, c ≠ z → c ≠ i1 → s.heap.get? c = some o → h'.get? c = some o) → Q none { s with heap := h' }) : wpAny (model prog w) A (pyNext (.ref z)) Q E s := by
 have hT : s.TypeIs (.ref z) "zip" := ⟨_, hz, rfl⟩
 unfold pyNext
 refine wpAny_bind (wpAny_attempt (wpAny_callSpecial?_slot (name := Str.ofString "__next__") hT F.slot_zip_next (wpAny_call_entry F.slot_zip_next hT F.entry_zip_next (zipD_end D1 D hz hTI t1 fun h' e hk he => ?_) (F.args_zip_next_1 _))))
 obtain ⟨o, ho, hc⟩ := he
 exact wpAny_bind (wpAny_isInstance (T := "StopIteration") (b := true) ⟨o, ho, hc⟩ isSubtype_stop (wpAny_pure (hQ _ hk)))
end
noncomputable abbrev zT1 (h : Heap) (l1 : Addr) : Heap := h.push { cls := .type "tuple_iterator", data := .fields #[.ref l1, .int 0 0] }
noncomputable abbrev zT2 (h : Heap) (l1 l2 : Addr) : Heap := (zT1 h l1).push { cls := .type "tuple_iterator", data := .fields #[.ref l2, .int 0 0] }
noncomputable abbrev zT3 (h : Heap) (l1 l2 : Addr) : Heap := (zT2 h l1 l2).push { cls := .type "tuple", data := .seq #[.ref h.objs.size, .ref (zT1 h l1).objs.size] }
noncomputable abbrev zT4 (h : Heap) (l1 l2 : Addr) : Heap := (zT3 h l1 l2).push { cls := .type "tuple", data := .seq #[.none, .none] }
noncomputable abbrev zT5 (h : Heap) (l1 l2 : Addr) : Heap := (zT4 h l1 l2).push { cls := .type "zip", data := .fields #[.none, .bool false, .bool false, .ref (zT2 h l1 l2).objs.size, .ref (zT3 h l1 l2).objs.size] }
theorem meets_zip_newT (l1 l2 : Addr) (xs ys : Array Value) :
  Meets (Builtin.«zip.__new__» ⟨[.type "zip", .ref l1, .ref l2], []⟩) (fun _ R s => s.heap.IsTuple l1 xs ∧ s.heap.IsTuple l2 ys ∧ R (.ok (.ret (.ref (zT4 s.heap l1 l2).objs.size))) { s with heap := zT5 s.heap l1 l2 }) :=
 .of_wp fun prog w A R s h => by
  obtain ⟨hp, g, d, tk, os⟩ := s; obtain ⟨p1, p2, h⟩ := h
  have isz := sub_zip
  have q1 : Heap.IsTuple (Shared.heap ⟨hp, g, d, tk, os⟩) l1 xs := p1
  have q2 : Heap.IsTuple (Shared.heap ⟨hp.push { cls := .type "tuple_iterator", data := .fields #[.ref l1, .int 0 0] }, g, d, tk, os⟩) l2 ys := let ⟨o, ho, r⟩ := p2; ⟨o, Heap.get?_push_of_some _ ho, r⟩
  wp_walk using wpAny_pyIter_tuple q1, wpAny_pyIter_tuple q2
  exact ⟨_, rfl, h⟩
section
variable {prog : Program} {w : World} {A : Around} {E : Value → Shared → Prop} {s : Shared}
theorem call_zip_T {l1 l2 : Addr} {xs ys : Array Value} {Q : Value → Shared → Prop} (p1 : s.heap.IsTuple l1 xs) (p2 : s.heap.IsTuple l2 ys)
  (h : ∀ h', IsZip h' (s.heap.objs.size + 4) (s.heap.objs.size + 2) (s.heap.objs.size + 3) .none → IsPair h' (s.heap.objs.size + 2) (.ref s.heap.objs.size) (.ref (s.heap.objs.size + 1)) →
   IsPair h' (s.heap.objs.size + 3) .none .none → h'.IsTupleIter s.heap.objs.size l1 0 → h'.IsTupleIter (s.heap.objs.size + 1) l2 0 → h'.objs.size = s.heap.objs.size + 5 →
   (∀ c o, s.heap.get? c = some o → h'.get? c = some o) → Q (.ref (s.heap.objs.size + 4)) { s with heap := h' }) :
  wpAny (model prog w) A (call (.type "zip") [.ref l1, .ref l2]) Q E s := by
 refine callType_new F.called_zip (by decide) (F.typeCall_zip_2 _ _) (F.newCall_zip_2 _ _) (fun obj => F.args_object_init_3 obj _ _) F.entry_zip_new (meets_zip_newT l1 l2 xs ys) ⟨p1, p2, ?_⟩
 have y1 : (zT1 s.heap l1).objs.size = s.heap.objs.size + 1 := Heap.size_push ..
 have y2 : (zT2 s.heap l1 l2).objs.size = s.heap.objs.size + 2 := by rw [Heap.size_push, y1]
 have y3 : (zT3 s.heap l1 l2).objs.size = s.heap.objs.size + 3 := by rw [Heap.size_push, y2]
 have y4 : (zT4 s.heap l1 l2).objs.size = s.heap.objs.size + 4 := by rw [Heap.size_push, y3]
 have y5 : (zT5 s.heap l1 l2).objs.size = s.heap.objs.size + 5 := by rw [Heap.size_push, y4]
 have r5 : (zT5 s.heap l1 l2).get? (zT4 s.heap l1 l2).objs.size = some _ := Heap.get?_push_size _ rfl
 have r4 : (zT5 s.heap l1 l2).get? (zT3 s.heap l1 l2).objs.size = some _ := Heap.get?_push_of_some _ (Heap.get?_push_size _ rfl)
 have r3 : (zT5 s.heap l1 l2).get? (zT2 s.heap l1 l2).objs.size = some _ := Heap.get?_push_of_some _ (Heap.get?_push_of_some _ (Heap.get?_push_size _ rfl))
 have r2 : (zT5 s.heap l1 l2).get? (zT1 s.heap l1).objs.size = some _ := Heap.get?_push_of_some _ (Heap.get?_push_of_some _ (Heap.get?_push_of_some _ (Heap.get?_push_size _ rfl)))
 have r1 : (zT5 s.heap l1 l2).get? s.heap.objs.size = some _ := Heap.get?_push_of_some _ (Heap.get?_push_of_some _ (Heap.get?_push_of_some _ (Heap.get?_push_of_some _ (Heap.get?_push_size _ rfl))))
 show _ ∧ _
 rw [y2, y3, y4] at r5; rw [y1, y2] at r3; rw [y3] at r4; rw [y1] at r2; rw [y4]
 exact ⟨⟨_, r5, rfl⟩, h _ r5 r3 r4 ⟨_, r1, rfl, rfl⟩ ⟨_, r2, rfl, rfl⟩ y5 fun c o x => Heap.get?_push_of_some _ (Heap.get?_push_of_some _ (Heap.get?_push_of_some _ (Heap.get?_push_of_some _ (Heap.get?_push_of_some _ x))))⟩
end
end PySem
namespace L2
open PySem PySem.Spec PyProof.Rows
structure SeqK where
 Sq : PySem.W.Frag → Hp → Addr → List V → Prop
 isq : Heap → Addr → Array Value → Prop
 iit : Heap → Addr → Addr → Nat → Prop
structure SeqK.Ok (k : SeqK) : Prop where
 get : ∀ {X : Cx} {pins : List (Addr × Obj)} {σ : St} {H : Hp} {s : Shared} {a : Addr} {xs : List V}, Inv X pins σ H s → k.Sq X.K H a xs → ∃ its : List Value, Vals xs its ∧ k.isq s.heap a its.toArray
 inj : ∀ {X : Cx} {pins : List (Addr × Obj)} {σ : St} {H : Hp} {s : Shared} {a : Addr} {xs ys : List V}, Inv X pins σ H s → k.Sq X.K H a xs → k.Sq X.K H a ys → xs = ys
 lt : ∀ {h : Heap} {a : Addr} {its : Array Value}, k.isq h a its → a < h.objs.size
 dr : ∀ {prog : Program} {w : World} {A : Around}, A.handled = none → ∀ (it l : Addr), l ≠ it → ∀ items : Array Value, Draws prog w A it [it, l] items.size (fun i v => items[i]? = some v) (fun i h => k.iit h it l i ∧ k.isq h l items)
 obj : ∀ {h : Heap} {it l : Addr} {i : Nat}, k.iit h it l i → ∃ o, h.get? it = some o ∧ ∀ v, o.data ≠ .cell v
 «at» : ∀ {h h' : Heap} {it l : Addr} {i : Nat}, k.iit h it l i → (∀ o, h.get? it = some o → h'.get? it = some o) → k.iit h' it l i
 zip : ∀ {prog : Program} {w : World} {A : Around} {E : Value → Shared → Prop} {s : Shared} {l1 l2 : Addr} {xs ys : Array Value} {Q : Value → Shared → Prop}, k.isq s.heap l1 xs → k.isq s.heap l2 ys →
  (∀ h', IsZip h' (s.heap.objs.size + 4) (s.heap.objs.size + 2) (s.heap.objs.size + 3) .none → IsPair h' (s.heap.objs.size + 2) (.ref s.heap.objs.size) (.ref (s.heap.objs.size + 1)) → IsPair h' (s.heap.objs.size + 3) .none .none →
   k.iit h' s.heap.objs.size l1 0 → k.iit h' (s.heap.objs.size + 1) l2 0 → (∀ c o, s.heap.get? c = some o → h'.get? c = some o) → Q (.ref (s.heap.objs.size + 4)) { s with heap := h' }) → wpAny (model prog w) A (call (.type "zip") [.ref l1, .ref l2]) Q E s
noncomputable def kL : SeqK := ⟨SqL, Heap.IsList, Heap.IsListIter⟩
noncomputable def kT : SeqK := ⟨SqT, Heap.IsTuple, Heap.IsTupleIter⟩
theorem kL_ok : kL.Ok where
 get := fun I h => let ⟨its, r, p, _⟩ := I.list h; ⟨its, r, p.isList⟩
 inj := fun I h1 h2 => I.list_inj h1 h2
 lt := fun p => let ⟨o, ho, _⟩ := p; Heap.lt_size ho
 dr := fun hh it l hne items => Draws.list hh it l hne items
 obj := fun ⟨o, e, c, d⟩ => ⟨o, e, fun v z => by rw [d] at z; cases z⟩
 «at» := fun x k => Heap.IsListIter.at x k
 zip := fun p1 p2 h => call_zip_2 p1 p2 fun h' a1 a2 a3 a4 a5 _ a7 => h h' a1 a2 a3 a4 a5 a7
theorem kT_ok : kT.Ok where
 get := fun I h => let ⟨its, r, p, _⟩ := I.tuple h; ⟨its, r, p⟩
 inj := fun I h1 h2 => I.tuple_inj h1 h2
 lt := fun p => let ⟨o, ho, _⟩ := p; Heap.lt_size ho
 dr := fun hh it l hne items => Draws.tuple hh it l hne items
 obj := fun ⟨o, e, c, d⟩ => ⟨o, e, fun v z => by rw [d] at z; cases z⟩
 «at» := fun x k => Heap.IsTupleIter.at x k
 zip := fun p1 p2 h => call_zip_T p1 p2 fun h' a1 a2 a3 a4 a5 _ a7 => h h' a1 a2 a3 a4 a5 a7
noncomputable def Itz (S1 S2 : Hp → List V → Prop) : It :=
 ⟨fun i H => ∃ xs ys x y, S1 H xs ∧ S2 H ys ∧ xs[i]? = some x ∧ ys[i]? = some y, fun i H v H' => ∃ p x y, v = .ref p ∧ H p = none ∧ H' = upd H p (.tup [x, y]) ∧ (∀ xs, S1 H xs → xs[i]? = some x) ∧ ∀ ys, S2 H ys → ys[i]? = some y, fun i H => ∃ xs, S1 H xs ∧ xs.length = i⟩
theorem turn_zip {P : Program} {w : World} {K : PySem.W.Frag} {es : List Expr} {x1} {pos : Pos} {k : SeqK} (ok : k.Ok) (z TI TO i1 i2 a b : Addr) (D : ZipFar z TI TO i1 i2 [i1, a] [i2, b]) (ha : a ≠ i1) (hb : b ≠ i2) :
  Turn P w K (.Tuple es x1 pos) (Itz (fun H xs => k.Sq K H a xs) fun H ys => k.Sq K H b ys) [z, TI, TO, i1, i2] z (fun i h => IsZip h z TI TO .none ∧ IsPair h TI (.ref i1) (.ref i2) ∧ (∃ u v, IsPair h TO u v) ∧ k.iit h i1 a i ∧ k.iit h i2 b i) where
 mem := by simp
 obj := fun i h st c hc => by
  obtain ⟨hz, hTI, ⟨u, v, hTO⟩, h1, h2⟩ := st
  simp only [List.mem_cons, List.not_mem_nil, or_false] at hc
  rcases hc with rfl | rfl | rfl | rfl | rfl
  ·exact ⟨_, hz, fun v z => by cases z⟩
  ·exact ⟨_, hTI, fun v z => by cases z⟩
  ·exact ⟨_, hTO, fun v z => by cases z⟩
  ·exact ok.obj h1
  ·exact ok.obj h2
 keep := fun i h h' st kp => by
  obtain ⟨hz, hTI, ⟨u, v, hTO⟩, h1, h2⟩ := st
  exact ⟨kp z (by simp) _ hz, kp TI (by simp) _ hTI, ⟨u, v, kp TO (by simp) _ hTO⟩, ok.at h1 fun o q => kp i1 (by simp) o q, ok.at h2 fun o q => kp i2 (by simp) o q⟩
 item := by
  intro X hP hw hK hc i pins s σ H E I hf st hg
  subst hP hw hK
  obtain ⟨hz, hTI, ⟨u, v, hTO⟩, h1, h2⟩ := st
  obtain ⟨xs, ys, x, y, q1, q2, e1, e2⟩ := hg
  obtain ⟨its, rv, p1⟩ := ok.get I q1
  obtain ⟨jts, rw', p2⟩ := ok.get I q2
  obtain ⟨ux, hux, rx⟩ := rv.get e1
  obtain ⟨uy, huy, ry⟩ := rw'.get e2
  have l1 : i < its.toArray.size := by rw [List.size_toArray]; exact (List.getElem?_eq_some_iff.mp hux).1
  have l2 : i < jts.toArray.size := by rw [List.size_toArray]; exact (List.getElem?_eq_some_iff.mp huy).1
  have hh : X.A.in1.handled = none := by simp [I.ok.hd hc]
  refine nextZ_item (ok.dr hh i1 a ha its.toArray) (ok.dr hh i2 b hb jts.toArray) D hz hTI hTO ⟨h1, p1⟩ ⟨h2, p2⟩ l1 l2 fun vx vy h' tk hvx hvy g1 g2 g3 g4 g5 g6 => ?_
  have ex : vx = ux := by
   have e : its[i]? = some vx := by simpa using hvx
   rw [hux] at e; exact (Option.some.inj e).symm
  have ey : vy = uy := by
   have e : jts[i]? = some vy := by simpa using hvy
   rw [huy] at e; exact (Option.some.inj e).symm
  subst ex ey
  refine ⟨_, rfl, wpAny_letOwnedTupleGo_zip (s := { s with heap := h', toks := tk }) g1 fun h2' hz2 hs2 => ?_⟩
  have hn : H s.heap.objs.size = none := I.hok.fresh (Nat.le_refl _)
  have lz : ∀ {c o}, s.heap.get? c = some o → s.heap.objs.size ≠ c := fun e => Nat.ne_of_gt (Heap.lt_size e)
  have li1 : s.heap.objs.size ≠ i1 := let ⟨o, e, _⟩ := ok.obj h1; lz e
  have li2 : s.heap.objs.size ≠ i2 := let ⟨o, e, _⟩ := ok.obj h2; lz e
  have kp : ∀ c o, c ∉ [z, TI, TO, i1, i2] → s.heap.get? c = some o → h2'.get? c = some o := fun c o hc' q => by
   have c1 : c ≠ z := fun e => hc' (by simp [e])
   exact (hs2.2 c c1).trans (g6 c o c1 (fun e => hc' (by simp [e])) (fun e => hc' (by simp [e])) (fun e => hc' (by simp [e])) q)
  have hT2 : IsPair h2' s.heap.objs.size vx vy := (hs2.2 _ (lz hz)).trans g5
  have I2 : Inv X pins σ (upd H s.heap.objs.size (.tup [x, y])) { s with heap := h2', toks := tk } := I.turnLaid (fp := [z, TI, TO, i1, i2]) kp hf (Nat.le_refl _) ⟨by show 2 ≤ sizeLine; rw [sizeLine_eq]; decide, [vx, vy], .cons rx (.cons ry .nil), ⟨_, hT2, rfl, _, rfl⟩⟩
  have hTI2 : IsPair h2' TI (.ref i1) (.ref i2) := (hs2.2 _ D.Iz).trans (g6 _ _ D.Iz D.IO D.I1 D.I2 hTI)
  refine ⟨.ref s.heap.objs.size, _, I2, rfl, ⟨s.heap.objs.size, x, y, rfl, hn, rfl, fun zs hz' => by rw [ok.inj I hz' q1]; exact e1, fun zs hz' => by rw [ok.inj I hz' q2]; exact e2⟩, ⟨hz2, hTI2, ⟨_, _, (hs2.2 _ D.Oz).trans g2⟩, ok.at g3.1 fun o q => (hs2.2 _ D.iz).trans q, ok.at g4.1 fun o q => (hs2.2 _ D.jz).trans q⟩, fun c hc' => ?_⟩
  have hcz : c ≠ s.heap.objs.size := by
   simp only [List.mem_cons, List.not_mem_nil, or_false] at hc'
   rcases hc' with rfl | rfl | rfl | rfl | rfl
   ·exact (lz hz).symm
   ·exact (lz hTI).symm
   ·exact (lz hTO).symm
   ·exact li1.symm
   ·exact li2.symm
  rw [upd_ne hcz]; exact (hf c hc').1
 done := by
  intro X hP hw hK hc i pins s σ H E I hf st hg
  subst hP hw hK
  obtain ⟨hz, hTI, ⟨u, v, hTO⟩, h1, h2⟩ := st
  obtain ⟨xs, q1, hx⟩ := hg
  obtain ⟨its, rv, p1⟩ := ok.get I q1
  have hl := rv.length
  have hi : its.toArray.size = i := by rw [List.size_toArray, ← hl, hx]
  have hh : X.A.in1.handled = none := by simp [I.ok.hd hc]
  refine nextZ_end (ok.dr hh i1 a ha its.toArray) D hz hTI (by rw [hi]; exact ⟨h1, p1⟩) fun h' hk => ⟨rfl, ?_⟩
  exact I.turnedL (fp := [z, TI, TO, i1, i2]) (t' := s.toks) (fun c o hc' q => hk c o (fun e => hc' (by simp [e])) (fun e => hc' (by simp [e])) q) hf
 self := fun _ _ _ _ _ st h => wpAny_pyIter_zip st.1 h
noncomputable def iZip (k : SeqK) (K : PySem.W.Frag) (ta : TA) : TI := fun σ H R => ta σ H fun vs H1 => ∃ a b xs ys, vs = [.ref a, .ref b] ∧ k.Sq K H1 a xs ∧ k.Sq K H1 b ys ∧ R (Itz (fun H xs => k.Sq K H a xs) fun H ys => k.Sq K H b ys) H1
section
variable {X : Cx}
theorem pi_zip {a b : Expr} {ta : TA} {p pos : Pos} {es : List Expr} {x1} {tpos : Pos} {k : SeqK} (ok : k.Ok) (hg : Gl X "zip") (hm : X.mg "zip" = none) (ha : PA X [a, b] ta) (hs : starEach [a, b] X.env = [(false, eval a X.env), (false, eval b X.env)] := by rfl) (hs2 : starEach [b] X.env = [(false, eval b X.env)] := by rfl) :
  PI X (.Tuple es x1 tpos) (.Call (.Name "zip" p) [a, b] [] pos) (iZip k X.K ta) := by
 intro pins s σ H R I h
 refine Call_ (ld_blt I hg hm boot_zip (PyProof.Rows.callWith_type1 (thn (ha pos pins s σ H _ I h) fun us s1 ⟨vs, H1, I1, r1, q1⟩ => ?_) (by rw [hs, hs2]) (by rw [hs2]; rfl)))
 obtain ⟨a', b', xs, ys, e, q1, q2, q⟩ := q1
 subst e
 obtain ⟨u, v, rfl, rx, ry⟩ := vals2 r1
 cases rx
 cases ry
 obtain ⟨its, rv, p1⟩ := ok.get I1 q1
 obtain ⟨jts, rw', p2⟩ := ok.get I1 q2
 have l1 := ok.lt p1
 have l2 := ok.lt p2
 refine ok.zip p1 p2 fun h' a1 a2 a3 a4 a5 a7 => ?_
 refine wpAny_pyIter_zip (s := { s1 with heap := h' }) a1 ?_
 have I2 : Inv X pins σ H1 { s1 with heap := h' } := I1.kept (t' := s1.toks) a7
 have far := zipFar_new s1.heap.objs.size a' b' l1 l2
 refine ⟨s1.heap.objs.size + 4, [s1.heap.objs.size + 4, s1.heap.objs.size + 2, s1.heap.objs.size + 3, s1.heap.objs.size, s1.heap.objs.size + 1], _, _, H1, rfl, I2, turn_zip ok _ _ _ _ _ a' b' far (Nat.ne_of_lt l1) (Nat.ne_of_lt (Nat.lt_succ_of_lt l2)), ⟨a1, a2, ⟨_, _, a3⟩, a4, a5⟩, fun c hc' => ?_, q⟩
 have hge : s1.heap.objs.size ≤ c := by
  simp only [List.mem_cons, List.not_mem_nil, or_false] at hc'
  rcases hc' with rfl | rfl | rfl | rfl | rfl
  ·exact Nat.le_add_right _ 4
  ·exact Nat.le_add_right _ 2
  ·exact Nat.le_add_right _ 3
  ·exact Nat.le_refl _
  ·exact Nat.le_succ _
 exact I1.fpOk hge (I1.hok.fresh hge)
theorem for_zip {S1 S2 : Hp → List V → Prop} {xs ys : List V} {g : TG} {tb : TS} {D : Ends} {σ : St} {H : Hp} (hlen : xs.length = ys.length) (Pv : Nat → St → Hp → Prop) (h0 : Pv 0 σ H) (hl : ∀ i σ H, Pv i σ H → S1 H xs ∧ S2 H ys)
  (hs : ∀ i x y p σ H, xs[i]? = some x → ys[i]? = some y → Pv i σ H → H p = none → g (.ref p) σ (upd H p (.tup [x, y])) fun σ2 H2 => tb { D with nx := Pv (i + 1), ct := Pv (i + 1), bk := D.nx } σ2 H2) (hd : ∀ σ H, Pv xs.length σ H → D.nx σ H) :
  tForJ (Itz S1 S2) g tb D σ H := by
 refine ⟨fun i m σ H => m = xs.length - i ∧ i ≤ xs.length ∧ Pv i σ H, ⟨xs.length, by simp, Nat.zero_le _, h0⟩, ?_⟩
 rintro i m σ H ⟨rfl, hi, p⟩
 obtain ⟨q1, q2⟩ := hl i σ H p
 by_cases hlt : i < xs.length
 ·have hlt2 : i < ys.length := by omega
  refine .inr ⟨⟨xs, ys, xs[i], ys[i], q1, q2, by simp [hlt], by simp [hlt2]⟩, Pv (i + 1), fun σ' H' p' => ⟨xs.length - (i + 1), by omega, rfl, hlt, p'⟩, fun x H' y => ?_⟩
  obtain ⟨pp, a, b, e1, e2, e3, e4, e5⟩ := y
  subst e1 e3
  exact hs i a b pp σ H (e4 xs q1) (e5 ys q2) p e2
 ·have e : i = xs.length := by omega
  subst e
  exact .inl ⟨⟨xs, q1, rfl⟩, hd σ H p⟩
end
end L2
namespace PySem
section
variable {prog : Program} {w : World} {A : Around} {E : Value → Shared → Prop} {s : Shared}
theorem zipD_end2 {z TI TO i1 i2 : Addr} {f1 f2 : List Addr} {n1 n2 : Nat} {P1 P2 : Nat → Value → Prop} {S1 S2 : Nat → Heap → Prop} {a b : Value} {Q : Fin → Shared → Prop} (D1 : Draws prog w A i1 f1 n1 P1 S1) (D2 : Draws prog w A i2 f2 n2 P2 S2) (D : ZipFar z TI TO i1 i2 f1 f2)
  (hz : IsZip s.heap z TI TO .none) (hTI : IsPair s.heap TI (.ref i1) (.ref i2)) (hTO : IsPair s.heap TO a b) (t1 : S1 n2 s.heap) (t2 : S2 n2 s.heap) (hk1 : n2 < n1)
  (hE : ∀ h' e tk, (∀ c o, c ≠ z → c ≠ TO → c ≠ i1 → c ≠ i2 → s.heap.get? c = some o → h'.get? c = some o) → (∃ o, h'.get? e = some o ∧ o.cls = .type "StopIteration") → E (.ref e) { s with heap := h', toks := tk }) :
  wpAny (model prog w) A (Builtin.«zip.__next__» ⟨[.ref z], []⟩) Q E s := by
 show wpAny _ _ (field (.ref z) 2 >>= _) _ _ _; refine wpAny_bind (wpAny_field hz rfl (x := .bool false) rfl ?_); show wpAny _ _ (field (.ref z) 3 >>= _) _ _ _
 refine wpAny_bind (wpAny_field hz rfl (x := .ref TI) rfl (wpAny_bind (wpAny_seqItems hTI rfl ?_)))
 show wpAny _ _ (Builtin.SmallTypes.ownedTupleIsFree (.ref z) >>= _) _ _ _; refine wpAny_bind ?_; unfold Builtin.SmallTypes.ownedTupleIsFree
 refine wpAny_bind (wpAny_field hz rfl (x := .none) rfl (wpAny_pure ?_)); simp only [if_true]
 refine wpAny_bind (wpAny_rule (wpAny_bind (wpAny_field hz rfl (x := .ref TO) rfl (wpAny_bind (wpAny_setField_rec hz (by simp) fun h₁ hz₁ hs₁ => ?_)))))
 replace hz₁ : IsZip h₁ z TI TO .ellipsis := hz₁
 refine wpAny_bind ?_; simp only [List.zipIdx_cons, List.zipIdx_nil, List.forIn_cons, List.forIn_nil]
 refine wpAny_bind (wpAny_bind (wpAny_onRaise ?_)); show wpAny _ _ (Builtin.SmallTypes.nextOf (.ref i1) >>= _) _ _ _
 have u1 : S1 n2 h₁ := D1.frame n2 _ _ t1 fun c hc o e => hs₁.extBut _ _ (fun q => D.z1 (q ▸ hc)) e
 refine wpAny_bind (D1.item n2 _ _ _ hk1 u1 fun x h₂ tk₂ hx v1 hs₂ => wpAny_pure ?_)
 have hTO₂ : IsPair h₂ TO a b := hs₂.extBut _ _ D.O1 (hs₁.extBut _ _ D.Oz hTO)
 refine wpAny_bind (wpAny_seqItems hTO₂ rfl (wpAny_bind (wpAny_updateSeq_pair hTO₂ fun h₃ hTO₃ hs₃ => ?_)))
 refine wpAny_bind (wpAny_letGo (wpAny_pure ?_)); refine wpAny_bind (wpAny_bind (wpAny_onRaise ?_)); show wpAny _ _ (Builtin.SmallTypes.nextOf (.ref i2) >>= _) _ _ _
 have u2 : S2 n2 h₃ := D2.frame n2 _ _ t2 fun c hc o e => hs₃.extBut _ _ (fun q => D.o2 (q ▸ hc)) (hs₂.extBut _ _ (fun q => D.c1 (q ▸ hc)) (hs₁.extBut _ _ (fun q => D.z2 (q ▸ hc)) e))
 refine wpAny_bind (D2.done _ _ _ u2 fun h₄ e hs₄ he => ?_)
 obtain ⟨oe, hoe, hce⟩ := he
 have hz₄ : IsZip h₄ z TI TO .ellipsis := hs₄ _ _ D.jz.symm (hs₃.extBut _ _ D.Oz.symm (hs₂.extBut _ _ D.iz.symm hz₁))
 have hez : e ≠ z := fun x => by subst x; rw [hz₄] at hoe; cases hoe; simp at hce
 refine wpAny_setField_rec hz₄ (by simp) fun h₅ _ hs₅ => hE h₅ e _ (fun c o c1 c2 c3 c4 x => hs₅.extBut _ _ c1 (hs₄ _ _ c4 (hs₃.extBut _ _ c2 (hs₂.extBut _ _ c3 (hs₁.extBut _ _ c1 x))))) ⟨oe, hs₅.extBut _ _ hez hoe, hce⟩
theorem nextZ_end2 {z TI TO i1 i2 : Addr} {f1 f2 : List Addr} {n1 n2 : Nat} {P1 P2 : Nat → Value → Prop} {S1 S2 : Nat → Heap → Prop} {a b : Value} {Q : Option Value → Shared → Prop} (D1 : Draws prog w A.in1 i1 f1 n1 P1 S1) (D2 : Draws prog w A.in1 i2 f2 n2 P2 S2) (D : ZipFar z TI TO i1 i2 f1 f2)
  (hz : IsZip s.heap z TI TO .none) (hTI : IsPair s.heap TI (.ref i1) (.ref i2)) (hTO : IsPair s.heap TO a b) (t1 : S1 n2 s.heap) (t2 : S2 n2 s.heap) (hk1 : n2 < n1)
  (hQ : ∀ h' tk, (∀ c o, c ≠ z → c ≠ TO → c ≠ i1 → c ≠ i2 → s.heap.get? c = some o → h'.get? c = some o) → Q none { s with heap := h', toks := tk }) : wpAny (model prog w) A (pyNext (.ref z)) Q E s := by
 have hT : s.TypeIs (.ref z) "zip" := ⟨_, hz, rfl⟩
 unfold pyNext
 refine wpAny_bind (wpAny_attempt (wpAny_callSpecial?_slot (name := Str.ofString "__next__") hT F.slot_zip_next (wpAny_call_entry F.slot_zip_next hT F.entry_zip_next (zipD_end2 D1 D2 D hz hTI hTO t1 t2 hk1 fun h' e tk hk he => ?_) (F.args_zip_next_1 _))))
 obtain ⟨o, ho, hc⟩ := he
 exact wpAny_bind (wpAny_isInstance (T := "StopIteration") (b := true) ⟨o, ho, hc⟩ isSubtype_stop (wpAny_pure (hQ _ _ hk)))
end
end PySem
namespace L2
open PySem PySem.Spec PyProof.Rows
noncomputable def Itz2 (S1 S2 : Hp → List V → Prop) : It := ⟨(Itz S1 S2).go, (Itz S1 S2).yld, fun i H => ∃ xs ys, S1 H xs ∧ S2 H ys ∧ ys.length = i ∧ i < xs.length⟩
theorem turn_zip2 {P : Program} {w : World} {K : PySem.W.Frag} {es : List Expr} {x1} {pos : Pos} {k : SeqK} (ok : k.Ok) (z TI TO i1 i2 a b : Addr) (D : ZipFar z TI TO i1 i2 [i1, a] [i2, b]) (ha : a ≠ i1) (hb : b ≠ i2) :
  Turn P w K (.Tuple es x1 pos) (Itz2 (fun H xs => k.Sq K H a xs) fun H ys => k.Sq K H b ys) [z, TI, TO, i1, i2] z (fun i h => IsZip h z TI TO .none ∧ IsPair h TI (.ref i1) (.ref i2) ∧ (∃ u v, IsPair h TO u v) ∧ k.iit h i1 a i ∧ k.iit h i2 b i) where
 mem := by simp
 obj := (turn_zip (P := P) (w := w) (K := K) (es := es) (x1 := x1) (pos := pos) ok z TI TO i1 i2 a b D ha hb).obj
 keep := (turn_zip (P := P) (w := w) (K := K) (es := es) (x1 := x1) (pos := pos) ok z TI TO i1 i2 a b D ha hb).keep
 item := (turn_zip (P := P) (w := w) (K := K) (es := es) (x1 := x1) (pos := pos) ok z TI TO i1 i2 a b D ha hb).item
 done := by
  intro X hP hw hK hc i pins s σ H E I hf st hg
  subst hP hw hK
  obtain ⟨hz, hTI, ⟨u, v, hTO⟩, h1, h2⟩ := st
  obtain ⟨xs, ys, q1, q2, hy, hx⟩ := hg
  obtain ⟨its, rv, p1⟩ := ok.get I q1
  obtain ⟨jts, rw', p2⟩ := ok.get I q2
  have hl := rv.length
  have hl2 := rw'.length
  have hi2 : jts.toArray.size = i := by rw [List.size_toArray, ← hl2, hy]
  have hi1 : i < its.toArray.size := by rw [List.size_toArray, ← hl]; exact hx
  have hh : X.A.in1.handled = none := by simp [I.ok.hd hc]
  refine nextZ_end2 (ok.dr hh i1 a ha its.toArray) (ok.dr hh i2 b hb jts.toArray) D hz hTI hTO (by rw [hi2]; exact ⟨h1, p1⟩) (by rw [hi2]; exact ⟨h2, p2⟩) (by rw [hi2]; exact hi1) fun h' tk hk => ⟨rfl, ?_⟩
  exact I.turnedL (fp := [z, TI, TO, i1, i2]) (t' := tk) (fun c o hc' q => hk c o (fun e => hc' (by simp [e])) (fun e => hc' (by simp [e])) (fun e => hc' (by simp [e])) (fun e => hc' (by simp [e])) q) hf
 self := (turn_zip (P := P) (w := w) (K := K) (es := es) (x1 := x1) (pos := pos) ok z TI TO i1 i2 a b D ha hb).self
noncomputable def iZip2 (k : SeqK) (K : PySem.W.Frag) (ta : TA) : TI := fun σ H R => ta σ H fun vs H1 => ∃ a b xs ys, vs = [.ref a, .ref b] ∧ k.Sq K H1 a xs ∧ k.Sq K H1 b ys ∧ R (Itz2 (fun H xs => k.Sq K H a xs) fun H ys => k.Sq K H b ys) H1
section
variable {X : Cx}
theorem pi_zip2 {a b : Expr} {ta : TA} {p pos : Pos} {es : List Expr} {x1} {tpos : Pos} {k : SeqK} (ok : k.Ok) (hg : Gl X "zip") (hm : X.mg "zip" = none) (ha : PA X [a, b] ta) (hs : starEach [a, b] X.env = [(false, eval a X.env), (false, eval b X.env)] := by rfl) (hs2 : starEach [b] X.env = [(false, eval b X.env)] := by rfl) :
  PI X (.Tuple es x1 tpos) (.Call (.Name "zip" p) [a, b] [] pos) (iZip2 k X.K ta) := by
 intro pins s σ H R I h
 refine Call_ (ld_blt I hg hm boot_zip (PyProof.Rows.callWith_type1 (thn (ha pos pins s σ H _ I h) fun us s1 ⟨vs, H1, I1, r1, q1⟩ => ?_) (by rw [hs, hs2]) (by rw [hs2]; rfl)))
 obtain ⟨a', b', xs, ys, e, q1, q2, q⟩ := q1
 subst e
 obtain ⟨u, v, rfl, rx, ry⟩ := vals2 r1
 cases rx
 cases ry
 obtain ⟨its, rv, p1⟩ := ok.get I1 q1
 obtain ⟨jts, rw', p2⟩ := ok.get I1 q2
 have l1 := ok.lt p1
 have l2 := ok.lt p2
 refine ok.zip p1 p2 fun h' a1 a2 a3 a4 a5 a7 => ?_
 refine wpAny_pyIter_zip (s := { s1 with heap := h' }) a1 ?_
 have I2 : Inv X pins σ H1 { s1 with heap := h' } := I1.kept (t' := s1.toks) a7
 have far := zipFar_new s1.heap.objs.size a' b' l1 l2
 refine ⟨s1.heap.objs.size + 4, [s1.heap.objs.size + 4, s1.heap.objs.size + 2, s1.heap.objs.size + 3, s1.heap.objs.size, s1.heap.objs.size + 1], _, _, H1, rfl, I2, turn_zip2 ok _ _ _ _ _ a' b' far (Nat.ne_of_lt l1) (Nat.ne_of_lt (Nat.lt_succ_of_lt l2)), ⟨a1, a2, ⟨_, _, a3⟩, a4, a5⟩, fun c hc' => ?_, q⟩
 have hge : s1.heap.objs.size ≤ c := by
  simp only [List.mem_cons, List.not_mem_nil, or_false] at hc'
  rcases hc' with rfl | rfl | rfl | rfl | rfl
  ·exact Nat.le_add_right _ 4
  ·exact Nat.le_add_right _ 2
  ·exact Nat.le_add_right _ 3
  ·exact Nat.le_refl _
  ·exact Nat.le_succ _
 exact I1.fpOk hge (I1.hok.fresh hge)
theorem for_zip2 {S1 S2 : Hp → List V → Prop} {xs ys : List V} {g : TG} {tb : TS} {D : Ends} {σ : St} {H : Hp} (hlen : ys.length < xs.length) (Pv : Nat → St → Hp → Prop) (h0 : Pv 0 σ H) (hl : ∀ i σ H, Pv i σ H → S1 H xs ∧ S2 H ys)
  (hs : ∀ i x y p σ H, xs[i]? = some x → ys[i]? = some y → Pv i σ H → H p = none → g (.ref p) σ (upd H p (.tup [x, y])) fun σ2 H2 => tb { D with nx := Pv (i + 1), ct := Pv (i + 1), bk := D.nx } σ2 H2) (hd : ∀ σ H, Pv ys.length σ H → D.nx σ H) :
  tForJ (Itz2 S1 S2) g tb D σ H := by
 refine ⟨fun i m σ H => m = ys.length - i ∧ i ≤ ys.length ∧ Pv i σ H, ⟨ys.length, by simp, Nat.zero_le _, h0⟩, ?_⟩
 rintro i m σ H ⟨rfl, hi, p⟩
 obtain ⟨q1, q2⟩ := hl i σ H p
 by_cases hlt2 : i < ys.length
 ·have hlt : i < xs.length := by omega
  refine .inr ⟨⟨xs, ys, xs[i], ys[i], q1, q2, by simp [hlt], by simp [hlt2]⟩, Pv (i + 1), fun σ' H' p' => ⟨ys.length - (i + 1), by omega, rfl, hlt2, p'⟩, fun x H' y => ?_⟩
  obtain ⟨pp, a, b, e1, e2, e3, e4, e5⟩ := y
  subst e1 e3
  exact hs i a b pp σ H (e4 xs q1) (e5 ys q2) p e2
 ·have e : i = ys.length := by omega
  subst e
  exact .inl ⟨⟨xs, ys, q1, q2, rfl, hlen⟩, hd σ H p⟩
end
end L2
namespace PySem
section
variable {prog : Program} {w : World} {A : Around} {E : Value → Shared → Prop} {s : Shared}
theorem rawItems_call {d : Addr} {o : Obj} {Q : Value → Shared → Prop} (ho : s.heap.get? d = some o) (hx : o.ExactDict) (hd : (d == sysModules) = false) (h : Q (.ref s.heap.objs.size) { s with heap := s.heap.push { cls := .type "dict_items", data := .fields #[.ref d] } }) :
  wpAny (model prog w) A (call (.builtin "dict.items") [.ref d]) Q E s := by
 have hT : s.TypeIs (.ref d) "dict" := ⟨o, ho, hx.1⟩
 refine wpAny_call_entry F.slot_dict_items hT F.entry_dict_items ?_ (F.args_dict_items_1 _)
 unfold Builtin.«dict.items»; refine wpAny_bind ?_; unfold Builtin.Dict.noArgs
 refine wpAny_bind (wpAny_notOrdered_dict hT ?_); show wpAny _ _ (pure d) _ _ s; refine wpAny_pure ?_
 show wpAny _ _ (Builtin.Dict.showsAll d >>= _) _ _ s; unfold Builtin.Dict.showsAll
 rw [if_neg (by rw [hd]; exact Bool.false_ne_true)]; refine wpAny_bind (wpAny_pure ?_)
 exact wpAny_bind (wpAny_newObj_type (wpAny_pure ⟨_, rfl, h⟩))
theorem rawItems_iter {v d : Addr} {o : Obj} {es : Array DictEntry} {ep : Nat} {Q : Value → Shared → Prop} (hv : s.heap.IsItemsView v d) (ho : s.heap.get? d = some o) (hd : o.data = .dict es ep)
  (hQ : Q (.ref s.heap.objs.size) { s with heap := s.heap.push { cls := .type "dict_itemiterator", data := .fields #[.none, .bool false, .ref d, .int 0 0, .int es.size 0, .int ep 0, .none, .none] } }) :
  wpAny (model prog w) A (pyIter (.ref v)) Q E s := by
 obtain ⟨ov, hov, hcv, hdv⟩ := id hv
 refine wpAny_pyIter_slot hv.typeIs F.slot_dict_items_iter (wpAny_call_entry F.slot_dict_items_iter hv.typeIs F.entry_dict_items_iter ?_ (F.args_dict_items_iter_1 _))
 unfold Builtin.«dict_items.__iter__»; refine wpAny_bind (wpAny_pure ?_); refine wpAny_bind ?_; unfold Builtin.Dict_items.dictOf
 refine wpAny_bind (wpAny_field hov hdv (x := .ref d) rfl (wpAny_pure ?_)); refine wpAny_bind ?_; unfold Builtin.Dict_items.newIterator
 refine wpAny_bind (wpAny_dictEntries ho hd (wpAny_bind (wpAny_dictEpoch ho hd ?_)))
 simp only [show Builtin.Dict_items.ownsTuple "dict_itemiterator" = true by decide, if_true]
 refine wpAny_newObj_type (wpAny_pure ⟨_, rfl, "dict_itemiterator", _, ⟨_, Heap.get?_push_size _ rfl, rfl⟩, F.slot_dict_itemiterator_next.lookup, ?_⟩) (by simp only [sizeOk, Builtin.Dict_items.ownedTupleFields, List.size_toArray, List.length_append, List.length_cons, List.length_nil, sizeLine_eq]; omega)
 simpa [rawInt, Builtin.Dict_items.ownedTupleFields] using hQ
theorem rawItems_item {it d : Addr} {i ep : Nat} {o : Obj} {es : Array DictEntry} {ok ov : Value} {Q : Option Value → Shared → Prop} (hit : IsItemIter s.heap it d i es.size ep ok ov) (ho : s.heap.get? d = some o) (hd : o.data = .dict es ep) (hi : i < es.size)
  (hQ : ∀ h', IsItemIterOut h' it d (i + 1) es.size ep es[i].key es[i].val s.heap.objs.size → h'.get? s.heap.objs.size = some { cls := .type "tuple", data := .seq #[es[i].key, es[i].val] } → h'.objs.size = s.heap.objs.size + 1 →
   (∀ b o, b ≠ it → s.heap.get? b = some o → h'.get? b = some o) → Q (some (.ref s.heap.objs.size)) { s with heap := h' }) : wpAny (model prog w) A (pyNext (.ref it)) Q E s := by
 obtain ⟨hp, g, dr, tk, os⟩ := s
 have hT : Shared.TypeIs ⟨hp, g, dr, tk, os⟩ (.ref it) "dict_itemiterator" := ⟨_, hit, rfl⟩
 unfold pyNext
 refine wpAny_bind (wpAny_attempt (wpAny_callSpecial?_slot (name := Str.ofString "__next__") hT F.slot_dict_itemiterator_next (wpAny_call_entry F.slot_dict_itemiterator_next hT F.entry_dict_itemiterator_next ?_ (F.args_dict_itemiterator_next_1 _))))
 refine wpAny_bind (wpAny_pure ?_); refine wpAny_bind ?_; refine wpAny_bind ?_
 first | (refine wpAny_bind (wpAny_typeNameOfWhole_itemiter hT (wpAny_pure ?_)); skip) | (refine wpAny_bind (wpAny_typeNameOf_itemiter hT (wpAny_pure ?_)); skip)
 refine wpAny_bind (wpAny_fieldsOf hit rfl ?_); simp only [show Builtin.Dict_items.ownsTuple "dict_itemiterator" = true by decide, if_true]
 show wpAny _ _ (if (Value.ref d == Value.none) = true then _ else _) _ _ _; rw [if_neg (show ¬ ((Value.ref d == Value.none) = true) from Bool.false_ne_true)]
 refine wpAny_bind (wpAny_pure ?_); refine wpAny_bind (wpAny_dictEntries ho hd ?_); rw [if_neg (by simp)]
 refine wpAny_bind (wpAny_pure ?_); refine wpAny_bind (wpAny_dictEpoch ho hd ?_); rw [if_neg (by simp)]; refine wpAny_pure ?_
 simp only [show ¬ ((i : Int) < 0) by omega, if_false, Int.toNat_natCast, Array.getElem?_eq_getElem hi]; refine wpAny_bind ?_
 first | (refine wpAny_bind (wpAny_typeNameOfWhole_itemiter hT (wpAny_pure ?_)); skip) | (refine wpAny_bind (wpAny_typeNameOf_itemiter hT (wpAny_pure ?_)); skip)
 refine wpAny_bind (wpAny_isOneOf_itemiter hT ?_); show wpAny _ _ (setField (.ref it) 3 (rawInt ((i : Int) + 1)) >>= _) _ _ ⟨hp, g, dr, tk, os⟩
 refine wpAny_bind (wpAny_setField_rec hit (by simp) fun h₁ he₁ hs₁ => ?_); replace hs₁ : Heap.SameBut it hp h₁ := hs₁
 replace he₁ : IsItemIter h₁ it d (i + 1) es.size ep ok ov := by
  have e : ((i + 1 : Nat) : Int) = (i : Int) + 1 := by omega
  unfold IsItemIter; rw [e]; simpa [rawInt] using he₁
 have hT₁ : Shared.TypeIs ⟨h₁, g, dr, tk, os⟩ (.ref it) "dict_itemiterator" := ⟨_, he₁, rfl⟩
 refine wpAny_bind (wpAny_holding ?_); refine wpAny_bind (wpAny_isOneOf_itemiter hT₁ (wpAny_bind (wpAny_isOneOf_itemiter hT₁ ?_)))
 show wpAny _ _ (Builtin.Dict_items.pairFromOwner (.ref it) 6 es[i].key es[i].val) _ _ ⟨h₁, g, dr, tk, os⟩; unfold Builtin.Dict_items.pairFromOwner
 refine wpAny_bind (wpAny_newTuple ?_)
 have he₂ : IsItemIter (h₁.push { cls := .type "tuple", data := .seq #[es[i].key, es[i].val] }) it d (i + 1) es.size ep ok ov := Heap.get?_push_of_some _ he₁
 generalize hh₂ : h₁.push { cls := .type "tuple", data := .seq #[es[i].key, es[i].val] } = h₂ at he₂
 have hz₁ : h₁.objs.size = hp.objs.size := hs₁.1
 have hil := Heap.lt_size hit
 have ht₂ : h₂.get? hp.objs.size = some { cls := .type "tuple", data := .seq #[es[i].key, es[i].val] } := by rw [← hh₂, ← hz₁]; exact Heap.get?_push_size _ rfl
 have hz₂ : h₂.objs.size = hp.objs.size + 1 := by rw [← hh₂, Heap.size_push, hz₁]
 have hk₂ : ∀ b o, b ≠ it → hp.get? b = some o → h₂.get? b = some o := fun b o hb e => by rw [← hh₂]; exact Heap.get?_push_of_some _ (hs₁.extBut b o hb e)
 show wpAny _ _ (Builtin.Dict_items.ownedTupleIsFree (.ref it) >>= _) _ _ ⟨h₂, g, dr, tk, os⟩; rw [hz₁]
 clear hh₂ he₁ hs₁ hT₁ hz₁ h₁
 refine wpAny_bind ?_; unfold Builtin.Dict_items.ownedTupleIsFree
 refine wpAny_bind (wpAny_field he₂ rfl (x := .none) rfl (wpAny_pure ?_)); simp only [if_true]
 refine wpAny_bind (wpAny_field he₂ rfl (x := ok) rfl (wpAny_bind (wpAny_field he₂ rfl (x := ov) rfl ?_)))
 refine wpAny_bind (wpAny_setField_rec he₂ (by simp) fun h₃ he₃ hs₃ => ?_); replace hs₃ : Heap.SameBut it h₂ h₃ := hs₃
 replace he₃ : IsItemIter h₃ it d (i + 1) es.size ep es[i].key ov := he₃
 refine wpAny_bind (wpAny_setField_rec he₃ (by simp) fun h₄ he₄ hs₄ => ?_); replace hs₄ : Heap.SameBut it h₃ h₄ := hs₄
 replace he₄ : IsItemIter h₄ it d (i + 1) es.size ep es[i].key es[i].val := he₄
 refine wpAny_bind (wpAny_setField_rec he₄ (by simp) fun h₅ he₅ hs₅ => ?_); replace hs₅ : Heap.SameBut it h₄ h₅ := hs₅
 replace he₅ : IsItemIterOut h₅ it d (i + 1) es.size ep es[i].key es[i].val hp.objs.size := he₅
 refine wpAny_bind (wpAny_setField_rec he₅ (by simp) fun h₆ he₆ hs₆ => ?_); replace hs₆ : Heap.SameBut it h₅ h₆ := hs₆
 replace he₆ : IsItemIterOut h₆ it d (i + 1) es.size ep es[i].key es[i].val hp.objs.size := he₆
 refine wpAny_bind (wpAny_letGo (wpAny_pure (wpAny_pure ⟨_, rfl, wpAny_pure (hQ h₆ he₆ ?_ ?_ ?_)⟩)))
 ·have ne := Nat.ne_of_gt hil
  exact hs₆.extBut _ _ ne (hs₅.extBut _ _ ne (hs₄.extBut _ _ ne (hs₃.extBut _ _ ne ht₂)))
 ·show h₆.objs.size = _
  rw [hs₆.1, hs₅.1, hs₄.1, hs₃.1, hz₂]
 ·exact fun b o hb e => hs₆.extBut b o hb (hs₅.extBut b o hb (hs₄.extBut b o hb (hs₃.extBut b o hb (hk₂ b o hb e))))
theorem rawItems_end {it d : Addr} {i ep : Nat} {o : Obj} {es : Array DictEntry} {ok ov : Value} {Q : Option Value → Shared → Prop} (hh : A.handled = none) (hit : IsItemIter s.heap it d i es.size ep ok ov) (ho : s.heap.get? d = some o) (hd : o.data = .dict es ep) (hi : es.size ≤ i)
  (hQ : ∀ h', Heap.ExtBut it s.heap h' → Q none { s with heap := h' }) : wpAny (model prog w) A (pyNext (.ref it)) Q E s := by
 have hT : s.TypeIs (.ref it) "dict_itemiterator" := ⟨_, hit, rfl⟩
 unfold pyNext
 refine wpAny_bind (wpAny_attempt (wpAny_callSpecial?_slot (name := Str.ofString "__next__") hT F.slot_dict_itemiterator_next (wpAny_call_entry F.slot_dict_itemiterator_next hT F.entry_dict_itemiterator_next ?_ (F.args_dict_itemiterator_next_1 _))))
 refine wpAny_bind (wpAny_pure ?_); refine wpAny_bind ?_; refine wpAny_bind ?_
 first | (refine wpAny_bind (wpAny_typeNameOfWhole_itemiter hT (wpAny_pure ?_)); skip) | (refine wpAny_bind (wpAny_typeNameOf_itemiter hT (wpAny_pure ?_)); skip)
 refine wpAny_bind (wpAny_fieldsOf hit rfl ?_); simp only [show Builtin.Dict_items.ownsTuple "dict_itemiterator" = true by decide, if_true]
 show wpAny _ _ (if (Value.ref d == Value.none) = true then _ else _) _ _ s; rw [if_neg (show ¬ ((Value.ref d == Value.none) = true) from Bool.false_ne_true)]
 refine wpAny_bind (wpAny_pure ?_); refine wpAny_bind (wpAny_dictEntries ho hd ?_); rw [if_neg (by simp)]
 refine wpAny_bind (wpAny_pure ?_); refine wpAny_bind (wpAny_dictEpoch ho hd ?_); rw [if_neg (by simp)]; refine wpAny_pure ?_
 simp only [show ¬ ((i : Int) < 0) by omega, if_false, Int.toNat_natCast, Array.getElem?_eq_none hi]; refine wpAny_bind ?_
 first | (refine wpAny_bind (wpAny_typeNameOfWhole_itemiter hT (wpAny_pure ?_)); skip) | (refine wpAny_bind (wpAny_typeNameOf_itemiter hT (wpAny_pure ?_)); skip)
 show wpAny _ _ (setField (.ref it) 2 .none >>= _) _ _ s; refine wpAny_bind (wpAny_setField hit rfl (by simp) ?_)
 show wpAny _ _ (newExc (.type "StopIteration") [] >>= _) _ _ _; refine wpAny_bind ?_; simp only [newExc, newTuple]
 refine wpAny_bind (wpAny_newObj_type ?_ (by size_fits)); refine wpAny_bind (m := firstArgMember _ _) (wpAny_of_eq (a := Value.none) (by first | rfl | (simp only [firstArgMember]; rfl)) ?_)
 refine wpAny_newObj_type ?_ (by size_fits); simp only [raiseNew]; refine wpAny_bind (wpAny_handled ?_); rw [show A.in1.handled = none from hh]
 refine wpAny_bind (wpAny_pure (wpAny_throw ?_)); refine wpAny_bind (wpAny_isInstance (T := "StopIteration") (b := true) ⟨_, Heap.get?_push_size _ rfl, rfl⟩ isSubtype_stop ?_)
 exact wpAny_pure (hQ _ (((Heap.SameBut.update ..).extBut.push _).push _))
theorem rawItems_self {it d : Addr} {i n ep : Nat} {ok ov : Value} {Q : Value → Shared → Prop} (hit : IsItemIter s.heap it d i n ep ok ov) (h : Q (.ref it) s) : wpAny (model prog w) A (pyIter (.ref it)) Q E s := by
 have hT : s.TypeIs (.ref it) "dict_itemiterator" := ⟨_, hit, rfl⟩
 have ent : entryFor table "dict_itemiterator.__iter__" = some Builtin.«dict_keyiterator.__iter__» := entryFor_alias (id' := "dict_keyiterator.__iter__") (by kernel_rfl) rfl (by decide +kernel) (by kernel_rfl)
 refine wpAny_pyIter_slot hT F.slot_dict_itemiterator_iter (wpAny_call_entry F.slot_dict_itemiterator_iter hT ent ?_ (F.args_dict_itemiterator_iter_1 _))
 show wpAny _ _ (ret (.ref it)) _ _ s
 exact wpAny_pure ⟨_, rfl, "dict_itemiterator", _, hT, F.slot_dict_itemiterator_next.lookup, h⟩
end
end PySem
namespace L2
open PySem PySem.Spec PyProof.Rows
theorem Inv.freeze {X : Cx} {pins : List (Addr × Obj)} {σ : St} {H : Hp} {s : Shared} {d : Addr} {o : Obj} {u : HO} (I : Inv X pins σ H s) (hm : Mut (H d)) (hd : H d = some u) (ho : s.heap.get? d = some o) : Inv X pins σ (upd H d (.frz o u)) s := by
 have hu : Un X.fs [] H (upd H d (.frz o u)) s.heap s.heap := by
  refine ⟨fun _ _ q _ _ _ => q, fun b ob q _ _ _ => ⟨ob.slots, q⟩, fun b _ _ n _ => ?_, fun b ob q _ => ⟨ob, q⟩, fun b xs q => ?_, fun b ob v q => ?_, fun b ps q => ⟨#[], ?_⟩⟩
  ·rw [upd_ne (fun z => by rw [z, hd] at n; cases n)]; exact n
  ·rw [upd_ne (fun z => by rw [z] at q; rw [q] at hm; exact hm)]; exact q
  ·rw [upd_ne (fun z => by rw [z] at q; rw [q] at hm; exact hm)]; exact q
  ·rw [upd_ne (fun z => by rw [z] at q; rw [q] at hm; exact hm), q]; simp
 have hok : HOk X.prog X.w (upd H d (.frz o u)) s.heap := fun b v q => by
  have st : ∀ c w', ObjOk X.prog X.w H s.heap c w' → ObjOk X.prog X.w (upd H d (.frz o u)) s.heap c w' := fun c w' x =>
   x.stay (fun _ _ _ q => q) (fun b q => by rw [upd_ne (fun z => by rw [z] at q; rw [q] at hm; exact hm)]; exact q) fun b xs q => by rw [upd_ne (fun z => by rw [z] at q; rw [q] at hm; exact hm)]; exact q
  by_cases hb : b = d
  ·subst hb
   rw [upd_same] at q; cases q
   exact ⟨ho, st _ _ (I.hok _ _ hd)⟩
  ·rw [upd_ne hb] at q
   exact st _ _ (I.hok _ _ q)
 have := I.un (h' := s.heap) (t' := s.toks) hu hok
 exact this
noncomputable def Itm (d : Addr) (o : Obj) (kvs : List (List Key × V)) : It :=
  ⟨fun i H => H d = some (.frz o (.dT kvs)) ∧ i < kvs.length,
   fun i H v H' => ∃ p b k x, v = .ref p ∧ H p = none ∧ H' = upd H p (.tup [.ref b, x]) ∧ kvs[i]? = some (k, x) ∧ H b = some (.tup (k.map kV)),
   fun i H => H d = some (.frz o (.dT kvs)) ∧ i = kvs.length⟩
theorem turn_items {P : Program} {w : World} {K : PySem.W.Frag} {es : List Expr} {x1} {pos : Pos} (it d : Addr) (o : Obj) (kvs : List (List Key × V)) (ens : Array DictEntry) (ep : Nat) (hd : o.data = .dict ens ep) (hz : ens.size = kvs.length) :
  Turn P w K (.Tuple es x1 pos) (Itm d o kvs) [it] it (fun i h => ∃ ok ov, IsItemIter h it d i ens.size ep ok ov) where
 mem := by simp
 obj := fun i h ⟨ok, ov, st⟩ c hc => by
  rw [List.mem_singleton.mp hc]
  exact ⟨_, st, fun v z => by cases z⟩
 keep := fun i h h' ⟨ok, ov, st⟩ kp => ⟨ok, ov, kp it (by simp) _ st⟩
 item := by
  intro X hP hw hK hc i pins s σ H E I hf st hg
  subst hP hw hK
  obtain ⟨ok, ov, st⟩ := st
  obtain ⟨g1, g2⟩ := hg
  obtain ⟨ho, ob⟩ := (show ObjOk X.prog X.w H s.heap d (.frz o (.dT kvs)) from I.hok _ _ g1)
  obtain ⟨_, _, xs, rp, o', es', ep', ho', hx', hd', he', _⟩ := ob
  rw [ho] at ho'; cases ho'
  rw [hd] at hd'; cases hd'
  have hi : i < ens.size := by omega
  have hxs : xs.length = kvs.length := (Paired.length rp).symm
  have hki : kvs[i]? = some kvs[i] := List.getElem?_eq_getElem g2
  have hxi : i < xs.length := by omega
  have hent : ens[i] = entryOfKey (tupleKind (mixKind X.prog X.w)) xs[i] := by
   have := entry_at (knd := tupleKind (mixKind X.prog X.w)) he' i
   rw [Array.getElem?_eq_getElem hi, List.getElem?_eq_getElem hxi] at this
   exact Option.some.inj this
  have hpr : kvs[i].1 = xs[i].1 ∧ H xs[i].2.1 = some (.tup (kvs[i].1.map kV)) ∧ RelV kvs[i].2 xs[i].2.2 := by
   have go : ∀ (l : List (List Key × V)) (m : List (List Key × Addr × Value)) (j : Nat) (a : j < l.length) (b : j < m.length), Paired (fun (p : List Key × V) (q : List Key × Addr × Value) => p.1 = q.1 ∧ H q.2.1 = some (.tup (p.1.map kV)) ∧ RelV p.2 q.2.2) l m → l[j].1 = m[j].1 ∧ H m[j].2.1 = some (.tup (l[j].1.map kV)) ∧ RelV l[j].2 m[j].2.2 := by
    intro l m j a b r
    induction r generalizing j with
    | nil => cases a
    | cons r t ih =>
     cases j with
     | zero => exact r
     | succ j => exact ih j (by simpa using a) (by simpa using b)
   exact go kvs xs i g2 hxi rp
  refine rawItems_item st ho hd hi fun h' g1' g2' g3' g4' => ?_
  refine ⟨_, rfl, wpAny_letOwnedTupleGo_items (s := { s with heap := h' }) g1' fun h2 hz2 hs2 => ?_⟩
  have lz : s.heap.objs.size ≠ it := Nat.ne_of_gt (Heap.lt_size st)
  have hn : H s.heap.objs.size = none := I.hok.fresh (Nat.le_refl _)
  have kp : ∀ c o, c ∉ [it] → s.heap.get? c = some o → h2.get? c = some o := fun c o hc' q => by
   have c1 : c ≠ it := fun e => hc' (by simp [e])
   exact (hs2.2 c c1).trans (g4' c o c1 q)
  have hT2 := (hs2.2 _ lz).trans g2'
  rw [hent] at hT2
  have I2 : Inv X pins σ (upd H s.heap.objs.size (.tup [.ref xs[i].2.1, kvs[i].2])) { s with heap := h2, toks := s.toks } := I.turnLaid (fp := [it]) kp hf (Nat.le_refl _) ⟨by show 2 ≤ sizeLine; rw [sizeLine_eq]; decide, [.ref xs[i].2.1, xs[i].2.2], .cons rfl (.cons hpr.2.2 .nil), ⟨_, hT2, rfl, _, rfl⟩⟩
  refine ⟨.ref s.heap.objs.size, _, I2, rfl, ⟨s.heap.objs.size, xs[i].2.1, kvs[i].1, kvs[i].2, rfl, hn, rfl, hki, hpr.2.1⟩, ⟨_, _, hz2⟩, fun c hc' => ?_⟩
  rw [List.mem_singleton.mp hc', upd_ne lz.symm]
  exact (hf it (by simp)).1
 done := by
  intro X hP hw hK hc i pins s σ H E I hf st hg
  subst hP hw hK
  obtain ⟨ok, ov, st⟩ := st
  obtain ⟨g1, g2⟩ := hg
  obtain ⟨ho, ob⟩ := (show ObjOk X.prog X.w H s.heap d (.frz o (.dT kvs)) from I.hok _ _ g1)
  refine rawItems_end (I.ok.hd hc) st ho hd (by omega) fun h' hk => ⟨rfl, ?_⟩
  exact I.turnedL (fp := [it]) (t' := s.toks) (fun c o hc' q => hk c o (fun e => hc' (by simp [e])) q) hf
 self := fun _ _ _ _ _ ⟨ok, ov, st⟩ h => rawItems_self st h
noncomputable def iItems (td : TE) : TI := fun σ H R => td σ H fun x H1 => ∃ d kvs, x = .ref d ∧ H1 d = some (.dT kvs) ∧ ∀ o, R (Itm d o kvs) (upd H1 d (.frz o (.dT kvs)))
section
variable {X : Cx}
theorem pi_items {a : Expr} {td : TE} {apos cpos : Pos} {es : List Expr} {x1} {tpos : Pos} (ha : PE X a td) (hbase : attributeBase a "items" X.env (eval a X.env) = eval a X.env := by rfl) (hline : (apos.endLine == cpos.line) = true := by rfl) :
  PI X (.Tuple es x1 tpos) (.Call (.Attribute a "items" apos) [] [] cpos) (iItems td) := by
 intro pins s σ H R I h
 refine wpAny_Call_method0_late hbase hline (thn (ha pins s σ H _ I h) fun v s1 ⟨x, H1, I1, r1, d, kvs, e, q1, q⟩ => ?_)
 subst e
 cases r1
 obtain ⟨_, hs, xs, rp, o, ens, ep, ho, hx, hd, he, _⟩ := (show ObjOk X.prog X.w H1 s1.heap d (.dT kvs) from I1.hok _ _ q1)
 have hsz : ens.size = kvs.length := by rw [size_of_entries he]; exact (Paired.length rp).symm
 refine ⟨"dict", "dict.items", PySem.F.plainAttrs_dict, PySem.F.slot_dict_items, PySem.F.type_dict_items, ⟨o, ho, hx.1⟩, fun a e => by cases e; exact ⟨o, ho, hx.2.1⟩, Calls.callWith_builtin rfl (PySem.evalArgs_none ?_)⟩
 refine rawItems_call ho hx hs ?_
 refine rawItems_iter (s := { s1 with heap := s1.heap.push { cls := .type "dict_items", data := .fields #[.ref d] } }) ⟨_, Heap.get?_push_size _ rfl, rfl, rfl⟩ (Heap.get?_push_of_some _ ho) hd ?_
 have kp : ∀ b ob, s1.heap.get? b = some ob → ((s1.heap.push { cls := .type "dict_items", data := .fields #[.ref d] }).push { cls := .type "dict_itemiterator", data := .fields #[.none, .bool false, .ref d, .int 0 0, .int ens.size 0, .int ep 0, .none, .none] }).get? b = some ob := fun b ob e => Heap.get?_push_of_some _ (Heap.get?_push_of_some _ e)
 have I2 := (I1.freeze (by rw [q1]; trivial) q1 ho).kept (t' := s1.toks) kp
 refine ⟨_, [_], _, _, _, rfl, I2, turn_items _ d o kvs ens ep hd hsz, ⟨_, _, Heap.get?_push_size _ rfl⟩, fun c hc => ?_, q o⟩
 rw [List.mem_singleton.mp hc]
 have hge : s1.heap.objs.size ≤ (s1.heap.push { cls := .type "dict_items", data := .fields #[.ref d] }).objs.size := by rw [Heap.size_push]; exact Nat.le_succ _
 exact I1.fpOk hge (by rw [upd_ne (Nat.ne_of_gt (Nat.lt_of_lt_of_le (Heap.lt_size ho) hge))]; exact I1.hok.fresh hge)
end
end L2
namespace Srt
open PySem PySem.W PyProof.Rows
section
variable {cmp : Nat → Nat → (Bool → Shared → Prop) → Shared → Prop} {n : Nat} {r : Nat → Int} {s : Shared}
noncomputable def Asks (cmp : Nat → Nat → (Bool → Shared → Prop) → Shared → Prop) (n : Nat) (r : Nat → Int) (s : Shared) : Prop := ∀ i j (C : Bool → Shared → Prop), i < n → j < n → C (decide (r i < r j)) s → cmp i j C s
noncomputable def at' (p : Array Nat) (k : Nat) : Nat := p.getD k 0
noncomputable def Pm (n : Nat) (p : Array Nat) : Prop := p.Perm (List.range n).toArray
theorem Pm.size {p : Array Nat} (h : Pm n p) : p.size = n := by rw [Array.Perm.size_eq h]; simp
theorem Pm.lt {p : Array Nat} (h : Pm n p) (k : Nat) (hn : 0 < n) : at' p k < n := by
 unfold at'
 by_cases hk : k < p.size
 ·have e : p.getD k 0 = p[k] := by simp [Array.getD, hk]
  rw [e]
  have h1 : p[k] ∈ p.toList := by simp
  have h2 := (Array.perm_iff_toList_perm.mp h).mem_iff.mp h1
  simpa using h2
 ·have e : p.getD k 0 = 0 := by simp [Array.getD, hk]
  rw [e]; exact hn
noncomputable def R (r : Nat → Int) (p : Array Nat) (k : Nat) : Int := r (at' p k)
noncomputable def Up (r : Nat → Int) (p : Array Nat) (k : Nat) : Prop := ∀ i j, i ≤ j → j < k → R r p i ≤ R r p j
noncomputable def Dn (r : Nat → Int) (p : Array Nat) (k : Nat) : Prop := ∀ i j, i ≤ j → j < k → R r p j ≤ R r p i
theorem up_succ {p : Array Nat} {k : Nat} (h : Up r p k) (h1 : R r p (k - 1) ≤ R r p k) : Up r p (k + 1) := by
 intro i j hij hj
 by_cases e : j < k
 ·exact h i j hij e
 ·have : j = k := by omega
  subst this
  by_cases e2 : i = j
  ·subst e2; exact Int.le_refl _
  ·exact Int.le_trans (h i (j - 1) (by omega) (by omega)) h1
theorem dn_succ {p : Array Nat} {k : Nat} (h : Dn r p k) (h1 : R r p k ≤ R r p (k - 1)) : Dn r p (k + 1) := by
 intro i j hij hj
 by_cases e : j < k
 ·exact h i j hij e
 ·have : j = k := by omega
  subst this
  by_cases e2 : i = j
  ·subst e2; exact Int.le_refl _
  ·exact Int.le_trans h1 (h i (j - 1) (by omega) (by omega))
theorem at_rev {p : Array Nat} {i j : Nat} (hj : j ≤ p.size) (k : Nat) : at' (kas_rev p i j) k = if i ≤ k ∧ k < j then at' p (i + j - 1 - k) else at' p k := by
 have e := getElem?_mirror_all (xs := p) (i := i) hj k
 have g : ∀ (xs : Array Nat) (k : Nat), at' xs k = (xs[k]?).getD 0 := fun xs k => by unfold at'; simp [Array.getD]; split <;> simp [*]
 rw [g, g, g]
 show (mirror p i j ((j - i) / 2))[k]?.getD 0 = _
 rw [e]
 split <;> rfl
theorem R_rev {p : Array Nat} {i j : Nat} (hj : j ≤ p.size) (k : Nat) : R r (kas_rev p i j) k = if i ≤ k ∧ k < j then R r p (i + j - 1 - k) else R r p k := by
 unfold R; rw [at_rev hj]; split <;> rfl
theorem R_rev_eq {p : Array Nat} {i j : Nat} (hj : j ≤ p.size) (h : ∀ k, i ≤ k → k < j → R r p k = R r p (j - 1)) (k : Nat) : R r (kas_rev p i j) k = R r p k := by
 rw [R_rev hj]
 split
 ·rw [h _ (by omega) (by omega), h k (by omega) (by omega)]
 ·rfl
theorem Pm.rev {p : Array Nat} (h : Pm n p) (i j : Nat) : Pm n (kas_rev p i j) := Array.Perm.trans (mirror_perm _ _ _ _) h
theorem Pm.bub {p : Array Nat} (h : Pm n p) (k d : Nat) : Pm n (bubble p k d) := Array.Perm.trans (bubble_perm _ _ _) h
theorem R_bub {p : Array Nat} {src d : Nat} (hs : src < p.size) (hd : d ≤ src) (k : Nat) : R r (bubble p src d) k = if k = src - d then R r p src else if src - d < k ∧ k ≤ src then R r p (k - 1) else R r p k := by
 have e := getElem?_bubble (xs := p) hs d hd k
 have g : ∀ (xs : Array Nat) (k : Nat), at' xs k = (xs[k]?).getD 0 := fun xs k => by unfold at'; simp [Array.getD]; split <;> simp [*]
 unfold R
 rw [g, e]
 split
 ·rw [g]
 ·split <;> rw [g]
theorem asc_ok (ha : Asks cmp n r s) (hn : 0 < n) {p : Array Nat} (hp : Pm n p) : ∀ (f k : Nat) (Q : Nat → Shared → Prop), 1 ≤ k → Up r p k → (∀ m, k ≤ m → m ≤ k + f → Up r p m → (m = k + f ∨ R r p m < R r p (m - 1)) → Q m s) → (kas_asc p f k).kasWp cmp Q s
 | 0, k, Q, h1, hu, h => h k (Nat.le_refl _) (Nat.le_refl _) hu (.inl rfl)
 | f + 1, k, Q, h1, hu, h => by
  show cmp (at' p k) (at' p (k - 1)) (fun b s' => (if b = true then KasT.ret k else kas_asc p f (k + 1)).kasWp cmp Q s') s
  refine ha _ _ _ (hp.lt _ hn) (hp.lt _ hn) ?_
  by_cases c : r (at' p k) < r (at' p (k - 1))
  ·rw [decide_eq_true c]
   exact h k (Nat.le_refl _) (by omega) hu (.inr c)
  ·rw [decide_eq_false c]
   refine asc_ok ha hn hp f (k + 1) Q (by omega) (up_succ hu (Int.not_lt.mp c)) fun m a b u e => h m (by omega) (by omega) u ?_
   rcases e with e | e
   ·left; omega
   ·exact .inr e
theorem desc_ok (ha : Asks cmp n r s) (hn : 0 < n) : ∀ (f k q : Nat) (p : Array Nat) (Q : Array Nat × Nat × Nat → Shared → Prop), Pm n p → 1 ≤ k → k + f ≤ n → Dn r p k → q + 1 ≤ k → (∀ i, k - (q + 1) ≤ i → i < k → R r p i = R r p (k - 1)) →
  (∀ p' m q', Pm n p' → k ≤ m → m ≤ k + f → Dn r p' m → q' + 1 ≤ m → (∀ i, m - (q' + 1) ≤ i → i < m → R r p' i = R r p' (m - 1)) → Q (p', m, q') s) → (kas_desc f p k q).kasWp cmp Q s
 | 0, k, q, p, Q, hp, h1, hk, hd, hq, he, h => h p k q hp (Nat.le_refl _) (Nat.le_refl _) hd hq he
 | f + 1, k, q, p, Q, hp, h1, hk, hd, hq, he, h => by
  have hsz : k ≤ p.size := by rw [hp.size]; omega
  show cmp (at' p k) (at' p (k - 1)) (fun c s' => (if c = true then (if q > 0 then kas_desc f (kas_rev p (k - (q + 1)) k) (k + 1) 0 else kas_desc f p (k + 1) 0) else KasT.ask (at' p (k - 1)) (at' p k) fun d => if d = true then KasT.ret (p, k, q) else kas_desc f p (k + 1) (q + 1)).kasWp cmp Q s') s
  refine ha _ _ _ (hp.lt _ hn) (hp.lt _ hn) ?_
  by_cases c : r (at' p k) < r (at' p (k - 1))
  ·rw [decide_eq_true c]
   have go : ∀ p', Pm n p' → (∀ i, R r p' i = R r p i) → (kas_desc f p' (k + 1) 0).kasWp cmp Q s := fun p' hp' e => by
    refine desc_ok ha hn f (k + 1) 0 p' Q hp' (by omega) (by omega) ?_ (by omega) ?_ fun p2 m q' a1 a2 a3 a4 a5 a6 => h p2 m q' a1 (by omega) (by omega) a4 a5 a6
    ·intro i j hij hj
     rw [e, e]
     exact dn_succ hd (Int.le_of_lt c) i j hij hj
    ·intro i hi1 hi2
     have : i = k := by omega
     subst this; rfl
   show (if q > 0 then kas_desc f (kas_rev p (k - (q + 1)) k) (k + 1) 0 else kas_desc f p (k + 1) 0).kasWp cmp Q s
   by_cases hq0 : q > 0
   ·rw [if_pos hq0]; exact go _ (hp.rev _ _) (R_rev_eq hsz he)
   ·rw [if_neg hq0]; exact go p hp fun _ => rfl
  ·rw [decide_eq_false c]
   show cmp (at' p (k - 1)) (at' p k) (fun d s' => (if d = true then KasT.ret (p, k, q) else kas_desc f p (k + 1) (q + 1)).kasWp cmp Q s') s
   refine ha _ _ _ (hp.lt _ hn) (hp.lt _ hn) ?_
   by_cases d : r (at' p (k - 1)) < r (at' p k)
   ·rw [decide_eq_true d]
    exact h p k q hp (Nat.le_refl _) (by omega) hd hq he
   ·rw [decide_eq_false d]
    have e : R r p k = R r p (k - 1) := Int.le_antisymm (Int.not_lt.mp d) (Int.not_lt.mp c)
    show (kas_desc f p (k + 1) (q + 1)).kasWp cmp Q s
    refine desc_ok ha hn f (k + 1) (q + 1) p Q hp (by omega) (by omega) (dn_succ hd (Int.le_of_eq e)) (by omega) ?_ fun p2 m q' a1 a2 a3 a4 a5 a6 => h p2 m q' a1 (by omega) (by omega) a4 a5 a6
    intro i hi1 hi2
    rw [show k + 1 - 1 = k by omega, e]
    by_cases ik : i = k
    ·rw [ik, e]
    ·exact he i (by omega) (by omega)
theorem tail_ok (ha : Asks cmp n r s) (hn : 0 < n) {p : Array Nat} (hp : Pm n p) {k nrem : Nat} {Q : Nat × Array Nat → Shared → Prop} (h1 : 1 ≤ k) (hk : k ≤ nrem) (hz : nrem ≤ n) (hd : Dn r p k)
  (h : ∀ m p', Pm n p' → 1 ≤ m → m ≤ nrem → Up r p' m → Q (m, p') s) : (kas_tail3 k nrem p).kasWp cmp Q s := by
 unfold kas_tail3
 rw [KasT.kasWp_bind]
 have hsz : k ≤ p.size := by rw [hp.size]; omega
 refine asc_ok ha hn (hp.rev 0 k) _ _ _ h1 ?_ fun m a b u _ => h m _ (hp.rev 0 k) (by omega) (by omega) u
 intro i j hij hj
 rw [R_rev hsz, R_rev hsz, if_pos (by omega), if_pos (by omega)]
 exact hd _ _ (by omega) (by omega)
theorem part_ok (ha : Asks cmp n r s) (hn : 0 < n) {p : Array Nat} (hp : Pm n p) {k nrem : Nat} {Q : Nat × Array Nat → Shared → Prop} (hk : k + 1 ≤ nrem) (hz : nrem ≤ n) (hd : Dn r p (k + 1))
  (h : ∀ m p', Pm n p' → 1 ≤ m → m ≤ nrem → Up r p' m → Q (m, p') s) : (kas_descPart k nrem p).kasWp cmp Q s := by
 unfold kas_descPart
 rw [KasT.kasWp_bind]
 refine desc_ok ha hn _ (k + 1) 0 p _ hp (by omega) (by omega) hd (by omega) (fun i a b => show R r p i = R r p (k + 1 - 1) by rw [show i = k + 1 - 1 by omega]) fun p' m q hp' a1 a2 hd' hq he => ?_
 show (if q > 0 then kas_tail3 m nrem (kas_rev p' (m - (q + 1)) m) else kas_tail3 m nrem p').kasWp cmp Q s
 have hsz : m ≤ p'.size := by rw [hp'.size]; omega
 by_cases hq0 : q > 0
 ·rw [if_pos hq0]
  refine tail_ok ha hn (hp'.rev _ _) (by omega) (by omega) hz ?_ h
  intro i j hij hj
  rw [R_rev_eq hsz he, R_rev_eq hsz he]
  exact hd' i j hij hj
 ·rw [if_neg hq0]
  exact tail_ok ha hn hp' (by omega) (by omega) hz hd' h
theorem count_ok (ha : Asks cmp n r s) (hn : 0 < n) {p : Array Nat} (hp : Pm n p) {Q : Nat × Array Nat → Shared → Prop} 
  (h : ∀ m p', Pm n p' → 1 ≤ m → m ≤ n → Up r p' m → Q (m, p') s) : (kas_count n p).kasWp cmp Q s := by
 unfold kas_count
 rw [KasT.kasWp_bind]
 refine asc_ok ha hn hp _ 1 _ (Nat.le_refl _) (fun i j a b => show R r p i ≤ R r p j by rw [show i = j by omega]; exact Int.le_refl _) fun m a b u e => ?_
 by_cases e1 : m = n
 ·rw [if_pos (by simpa using e1)]
  exact h m p hp a (by omega) u
 ·rw [if_neg (by simpa using e1)]
  have hlt : R r p m < R r p (m - 1) := e.resolve_left (by omega)
  have dn1 : ∀ p', Pm n p' → Dn r p' m → (∀ i, R r p' i = R r p i) → Dn r p' (m + 1) := fun p' _ d z => dn_succ d (by rw [z, z]; exact Int.le_of_lt hlt)
  by_cases e2 : m > 1
  ·rw [if_pos e2]
   show cmp (at' p 0) (at' p (m - 1)) (fun c s' => (if c = true then KasT.ret (m, p) else kas_descPart m n (kas_rev p 0 m)).kasWp cmp Q s') s
   refine ha _ _ _ (hp.lt _ hn) (hp.lt _ hn) ?_
   by_cases c : r (at' p 0) < r (at' p (m - 1))
   ·rw [decide_eq_true c]
    exact h m p hp a (by omega) u
   ·rw [decide_eq_false c]
    have hall : ∀ k, 0 ≤ k → k < m → R r p k = R r p (m - 1) := fun k _ hk => by
     have a1 := u 0 k (by omega) hk
     have a2 := u k (m - 1) (by omega) (by omega)
     have a3 : R r p (m - 1) ≤ R r p 0 := Int.not_lt.mp c
     omega
    have hsz : m ≤ p.size := by rw [hp.size]; omega
    refine part_ok ha hn (hp.rev 0 m) (by omega) (Nat.le_refl _) (dn1 _ (hp.rev 0 m) ?_ (R_rev_eq hsz hall)) h
    intro i j hij hj
    rw [R_rev_eq hsz hall, R_rev_eq hsz hall, hall i (by omega) (by omega), hall j (by omega) hj]
    exact Int.le_refl _
  ·rw [if_neg e2]
   have : m = 1 := by omega
   subst this
   refine part_ok ha hn hp (by omega) (Nat.le_refl _) (dn1 p hp (fun i j hij hj => ?_) fun _ => rfl) h
   have : i = j := by omega
   subst this; exact Int.le_refl _
theorem place_ok (ha : Asks cmp n r s) (hn : 0 < n) {p : Array Nat} (hp : Pm n p) {k : Nat} (hu : Up r p k) : ∀ (f lo hi : Nat) (Q : Nat → Shared → Prop), lo ≤ hi → hi ≤ k → hi - lo ≤ f → (∀ i, i < lo → R r p i ≤ R r p k) → (∀ i, hi ≤ i → i < k → R r p k < R r p i) →
  (∀ l, l ≤ k → (∀ i, i < l → R r p i ≤ R r p k) → (∀ i, l ≤ i → i < k → R r p k < R r p i) → Q l s) → (kas_place p k f lo hi).kasWp cmp Q s
 | 0, lo, hi, Q, h1, h2, h3, hl, hh, h => h lo (by omega) hl fun i a b => hh i (by omega) b
 | f + 1, lo, hi, Q, h1, h2, h3, hl, hh, h => by
  unfold kas_place
  by_cases e : lo ≥ hi
  ·rw [if_pos e]
   exact h lo (by omega) hl fun i a b => hh i (by omega) b
  ·rw [if_neg e]
   show cmp (at' p k) (at' p ((lo + hi) / 2)) (fun c s' => (if c = true then kas_place p k f lo ((lo + hi) / 2) else kas_place p k f ((lo + hi) / 2 + 1) hi).kasWp cmp Q s') s
   refine ha _ _ _ (hp.lt _ hn) (hp.lt _ hn) ?_
   by_cases c : r (at' p k) < r (at' p ((lo + hi) / 2))
   ·rw [decide_eq_true c]
    refine place_ok ha hn hp hu f lo ((lo + hi) / 2) Q (by omega) (by omega) (by omega) hl (fun i a b => ?_) h
    exact Int.lt_of_lt_of_le c (hu ((lo + hi) / 2) i a b)
   ·rw [decide_eq_false c]
    refine place_ok ha hn hp hu f ((lo + hi) / 2 + 1) hi Q (by omega) (by omega) (by omega) (fun i a => ?_) hh h
    exact Int.le_trans (hu i ((lo + hi) / 2) (by omega) (by omega)) (Int.not_lt.mp c)
theorem bin_ok (ha : Asks cmp n r s) (hn : 0 < n) : ∀ (f k : Nat) (p : Array Nat) (Q : Array Nat → Shared → Prop), Pm n p → k + f = n → Up r p k → (∀ p', Pm n p' → Up r p' n → Q p' s) → (kas_bin f p k).kasWp cmp Q s
 | 0, k, p, Q, hp, hk, hu, h => h p hp (by rw [← hk]; exact hu)
 | f + 1, k, p, Q, hp, hk, hu, h => by
  show ((kas_place p k k 0 k).bind fun l => kas_bin f (bubble p k (k - l)) (k + 1)).kasWp cmp Q s
  rw [KasT.kasWp_bind]
  refine place_ok ha hn hp hu k 0 k _ (Nat.zero_le _) (Nat.le_refl _) (by omega) (fun i a => by omega) (fun i a b => by omega) fun l hl h1 h2 => ?_
  refine bin_ok ha hn f (k + 1) _ Q (hp.bub _ _) (by omega) ?_ h
  have hs : k < p.size := by rw [hp.size]; omega
  intro i j hij hj
  rw [R_bub hs (by omega), R_bub hs (by omega), show k - (k - l) = l by omega]
  by_cases c1 : i = l
  ·rw [if_pos c1]
   by_cases c2 : j = l
   ·rw [if_pos c2]; exact Int.le_refl _
   ·rw [if_neg c2, if_pos (by omega)]
    exact Int.le_of_lt (h2 (j - 1) (by omega) (by omega))
  ·rw [if_neg c1]
   by_cases c2 : j = l
   ·rw [if_pos c2, if_neg (by omega)]
    exact h1 i (by omega)
   ·rw [if_neg c2]
    by_cases c3 : l < i ∧ i ≤ k
    ·rw [if_pos c3, if_pos (by omega)]
     exact hu _ _ (by omega) (by omega)
    ·rw [if_neg c3]
     by_cases c4 : l < j ∧ j ≤ k
     ·rw [if_pos c4]
      exact hu _ _ (by omega) (by omega)
     ·rw [if_neg c4]
      exact hu _ _ hij (by omega)
theorem sort_ok (ha : Asks cmp n r s) (h2 : 2 ≤ n) {Q : Array Nat → Shared → Prop} (h : ∀ p, Pm n p → Up r p n → Q p s) : (kas_sort n).kasWp cmp Q s := by
 unfold kas_sort
 rw [KasT.kasWp_bind]
 refine count_ok ha (by omega) (Array.Perm.refl _) fun m p hp h1 hm u => ?_
 show (if m < n then kas_bin (n - max m 1) p (max m 1) else KasT.ret p).kasWp cmp Q s
 by_cases e : m < n
 ·rw [if_pos e]
  have : max m 1 = m := by omega
  rw [this]
  exact bin_ok ha (by omega) _ _ p Q hp (by omega) u h
 ·rw [if_neg e]
  have : m = n := by omega
  subst this
  exact h p hp u
end
end Srt
namespace Srt
open PySem PySem.W PyProof.Rows
section
variable {prog : Program} {w : World} {A : Around} {E : Value → Shared → Prop} {s : Shared} {κ : SortKind} {r : Nat → Int}
noncomputable def But (a : Addr) (h h' : Heap) : Prop := ∀ b o, b ≠ a → h.get? b = some o → h'.get? b = some o
theorem pm_range (n : Nat) : Pm n (List.toArray (List.range n)) := Array.Perm.refl _
theorem up_short {p : Array Nat} {n : Nat} (h : n < 2) : Up r p n := fun i j hij hj => by
 have : i = j := by omega
 subst this; exact Int.le_refl _
theorem range_map (vs : List Value) : (List.toArray (List.range vs.length)).toList.map (fun i => vs.getD i Value.none) = vs := by
 refine List.ext_getElem (by simp) fun i h1 h2 => ?_
 simp [h2]
theorem sort_raw {a : Addr} {vs : List Value} {n : Nat} {P : PySem.Fin → Shared → Prop} (ho : s.heap.get? a = some (seqObj "list" vs.toArray n)) (h64 : vs.length < 64)
  (hk : 2 ≤ vs.length → ∀ h', But a s.heap h' → (∀ Q : SortKind → Shared → Prop, Q κ { s with heap := h' } → wpAny (model prog w) A (keyKind' vs.toArray) Q E { s with heap := h' }) ∧ Asks (kas_ask prog w A κ vs) vs.length r { s with heap := h' })
  (h : ∀ h' c p, Pm vs.length p → Up r p vs.length → h'.get? a = some (seqObj "list" (p.toList.map fun i => vs.getD i Value.none).toArray c) → But a s.heap h' → P (.done (.ret .none)) { s with heap := h' }) :
  wpAny (model prog w) A (Builtin.«list.sort» ⟨[.ref a], []⟩) P E s := by
 have la := Heap.lt_size ho
 obtain ⟨c1, o1⟩ : ∃ c1, (s.heap.update a (Obj.mapSeq fun _ => (#[] : Array Value))).get? a = some (seqObj "list" #[] c1) := ⟨_, get?_update_seq ho fun _ => #[]⟩
 have b1 : But a s.heap (s.heap.update a (Obj.mapSeq fun _ => (#[] : Array Value))) := fun b o hb e => by rw [Heap.get?_update_ne _ _ _ _ hb]; exact e
 generalize hg1 : s.heap.update a (Obj.mapSeq fun _ => (#[] : Array Value)) = g1 at o1 b1
 have o3 : ((g1.push (seqObj "tuple" vs.toArray 0)).push (seqObj "list" #[] 0)).get? a = some (seqObj "list" #[] c1) := Heap.get?_push_of_some _ (Heap.get?_push_of_some _ o1)
 have b3 : But a s.heap ((g1.push (seqObj "tuple" vs.toArray 0)).push (seqObj "list" #[] 0)) := fun b o hb e => Heap.get?_push_of_some _ (Heap.get?_push_of_some _ (b1 b o hb e))
 rw [list_sort_plain]
 refine wpAny_bind (listItems_at ho rfl ?_)
 refine wpAny_bind (listUpdate_at ho rfl ?_ (by rw [List.size_toArray, sizeLine_eq]; omega) (Nat.zero_le _))
 rw [hg1]
 refine wpAny_bind (seqEpoch_at o1 rfl ?_)
 refine wpAny_bind (wpAny_newTuple ?_ (by show vs.length ≤ _; rw [sizeLine_eq]; omega))
 refine wpAny_bind (wpAny_newList ?_ (Nat.zero_le _))
 refine wpAny_holding ?_
 show wpAny (model prog w) A _ P E { s with heap := (g1.push (seqObj "tuple" vs.toArray 0)).push (seqObj "list" #[] 0) }
 generalize (g1.push (seqObj "tuple" vs.toArray 0)).push (seqObj "list" #[] 0) = g3 at o3 b3
 dsimp only
 have fin : ∀ (st : SortSt) (p : Array Nat), Pm vs.length p → Up r p vs.length → (arrOf st).map (·.2) = (p.toList.map fun i => vs.getD i Value.none).toArray → failedOf st = none →
   wpAny (model prog w) A (do
    let touched := (← seqEpoch a) != c1
    Builtin.List.listUpdate (.ref a) fun _ => (arrOf st).map (·.2)
    if let some e := failedOf st then rule "list.sort.comparison-raised"; throw e
    if touched then rule "list.sort.modified"; raiseError "ValueError" "list modified during sort"
    ret .none) P E { s with heap := g3 } := fun st p hp hu hout hf => by
  rw [hout, hf]
  have hz : (p.toList.map fun i => vs.getD i Value.none).toArray.size = vs.length := by rw [List.size_toArray, List.length_map, Array.length_toList, hp.size]
  obtain ⟨c4, o4⟩ : ∃ c4, (g3.update a (Obj.mapSeq fun _ => (p.toList.map fun i => vs.getD i Value.none).toArray)).get? a = some (seqObj "list" (p.toList.map fun i => vs.getD i Value.none).toArray c4) := ⟨_, get?_update_seq o3 fun _ => (p.toList.map fun i => vs.getD i Value.none).toArray⟩
  refine wpAny_bind (seqEpoch_at o3 rfl ?_)
  refine wpAny_bind (listUpdate_at o3 rfl ?_ (Nat.zero_le _) (Nat.le_trans (Nat.le_of_eq hz) (by rw [sizeLine_eq]; omega)))
  simp only [bne_self_eq_false, Bool.false_eq_true, if_false]
  exact wpAny_pure (h _ c4 p hp hu o4 fun b o hb e => by rw [Heap.get?_update_ne _ _ _ _ hb]; exact b3 b o hb e)
 by_cases h2 : vs.toArray.size < 2
 ·rw [if_pos h2, if_pos h2]
  refine wpAny_bind (wpAny_pure ?_)
  rw [StateT.run_pure]
  refine wpAny_bind (wpAny_pure ?_)
  refine fin _ _ (pm_range _) (up_short (by rw [List.size_toArray] at h2; exact h2)) ?_ rfl
  rw [range_map]
  show (vs.toArray.zip vs.toArray).map (·.2) = _
  apply Array.toList_inj.mp
  simp [List.map_snd_zip]
 ·rw [if_neg h2, if_neg h2]
  rw [List.size_toArray] at h2
  obtain ⟨kk, ask⟩ := hk (by omega) g3 b3
  refine wpAny_bind (kk _ ?_)
  refine wpAny_bind (wpAny_mono (kat_run (Q := fun st' s' => s' = { s with heap := g3 } ∧ ∃ p, Pm vs.length p ∧ Up r p vs.length ∧ arrOf st' = p.map (kas_item (vs.toArray.zip vs.toArray)) ∧ failedOf st' = none) (G := fun p s' => s' = { s with heap := g3 } ∧ Pm vs.length p ∧ Up r p vs.length)
   rfl (by omega) h64 (fun p st' s' a1 a2 a3 a4 => ⟨a4.1, p, a4.2.1, a4.2.2, a2, a3⟩) (sort_ok ask (by omega) fun p hp hu => ⟨rfl, hp, hu⟩)) ?_ fun _ _ e => e)
  rintro ⟨⟨⟩, st'⟩ s' ⟨rfl, p, hp, hu, har, hf⟩
  exact fin st' p hp hu (kat_snds rfl har) hf
theorem sorted_raw {x : Value} {vs : List Value} {Q : Value → Shared → Prop} (h64 : vs.length < 64)
  (hc : ∀ Q' : List Value → Shared → Prop, (∀ h1 tk, (∀ b o, s.heap.get? b = some o → h1.get? b = some o) → s.heap.objs.size ≤ h1.objs.size → Q' vs { s with heap := h1, toks := tk }) → wpAny (model prog w) A.in1 (collect x) Q' E s)
  (hr : ∀ h1 tk, (∀ b o, s.heap.get? b = some o → h1.get? b = some o) → 2 ≤ vs.length → (∀ Q : SortKind → Shared → Prop, Q κ { s with heap := h1, toks := tk } → wpAny (model prog w) A.in1.in1 (keyKind' vs.toArray) Q E { s with heap := h1, toks := tk }) ∧ Asks (kas_ask prog w A.in1.in1 κ vs) vs.length r { s with heap := h1, toks := tk })
  (h : ∀ D h' tk c p, s.heap.objs.size ≤ D → Pm vs.length p → Up r p vs.length → h'.get? D = some (seqObj "list" (p.toList.map fun i => vs.getD i Value.none).toArray c) → (∀ b o, s.heap.get? b = some o → h'.get? b = some o) → Q (.ref D) { s with heap := h', toks := tk }) :
  wpAny (model prog w) A (call (.builtin "sorted") [x]) Q E s := by
 refine Calls.call_function_entry kind_sorted plain_sorted entry_sorted (args_sorted1 _) ?_
 unfold Builtin.«sorted»
 refine wpAny_bind (m := checkCount "sorted" 1 1 _) (wpAny_pure ?_)
 refine wpAny_bind (hc _ fun h1 tk k1 z1 => ?_)
 refine wpAny_bind (wpAny_newList ?_ (by rw [sizeLine_eq]; omega))
 have oL : (h1.push (seqObj "list" vs.toArray 0)).get? h1.objs.size = some (seqObj "list" vs.toArray 0) := Heap.get?_push_size _ rfl
 have kL : ∀ b o, s.heap.get? b = some o → (h1.push (seqObj "list" vs.toArray 0)).get? b = some o ∧ b ≠ h1.objs.size := fun b o e => ⟨Heap.get?_push_of_some _ (k1 b o e), Nat.ne_of_lt (Nat.lt_of_lt_of_le (Heap.lt_size e) z1)⟩
 refine wpAny_bind (wpAny_holding (wpAny_call_entry slot_list_sort ⟨_, oL, rfl⟩ entry_list_sort ?_ (args_list_sort _)))
 refine sort_raw (κ := κ) (r := r) oL h64 (fun h2 h' b' => hr h' tk (fun b o e => b' b o (kL b o e).2 (kL b o e).1) h2) fun h' c p hp hu o' b' => ⟨_, rfl, ?_⟩
 exact wpAny_pure ⟨_, rfl, h h1.objs.size h' tk c p z1 hp hu o' fun b o e => b' b o (kL b o e).2 (kL b o e).1⟩
end
end Srt
namespace L2
open PySem PySem.Spec PyProof.Rows
noncomputable def Kn (H : Hp) : Nat → V → Prop
 | 0, _ => True
 | n + 1, v => match v with
  | .non => True
  | .bl _ => True
  | .int _ => True
  | .str _ => True
  | .ref a => (∃ xs, H a = some (.lst xs)) ∨ (∃ kvs, H a = some (.dK kvs)) ∨ ∃ xs, H a = some (.tup xs) ∧ xs.length ≤ 1000 ∧ ∀ x ∈ xs, Kn H n x
  | _ => False
noncomputable def KnA (H : Hp) (v : V) : Prop := ∀ n, Kn H n v
structure Ext (H H' : Hp) : Prop where
 tup : ∀ a xs, H a = some (.tup xs) → H' a = some (.tup xs)
 lst : ∀ a xs, H a = some (.lst xs) → ∃ ys, H' a = some (.lst ys)
 dct : ∀ a kvs, H a = some (.dK kvs) → H' a = some (.dK kvs)
theorem Same.ext {H H' : Hp} (s : Same H H') : Ext H H' := ⟨fun _ _ h => s _ _ h, fun _ xs h => ⟨xs, s _ _ h⟩, fun _ _ h => s _ _ h⟩
theorem KnA.int {H : Hp} (i : Int) : KnA H (.int i) := fun n => by cases n <;> exact True.intro
theorem KnA.tup {H : Hp} {a : Addr} {xs : List V} (h : H a = some (.tup xs)) (hl : xs.length ≤ 1000) (hx : ∀ x ∈ xs, KnA H x) : KnA H (.ref a) := fun n => by
 cases n with
 | zero => exact True.intro
 | succ n => exact .inr (.inr ⟨xs, h, hl, fun x hm => hx x hm n⟩)
noncomputable def isInt : V → Bool | .int _ => true | _ => false
noncomputable def isBl : V → Bool | .bl _ => true | _ => false
noncomputable def tupOf (H : Hp) : V → Option (List V)
 | .ref a => match H a with | some (.tup xs) => some xs | _ => none
 | _ => none
theorem tupOf_of {H : Hp} {a : Addr} {xs : List V} (h : H a = some (.tup xs)) : tupOf H (.ref a) = some xs := by simp [tupOf, h]
theorem of_tupOf {H : Hp} {v : V} {xs : List V} (h : tupOf H v = some xs) : ∃ a, v = .ref a ∧ H a = some (.tup xs) := by
 cases v with
 | ref a =>
  unfold tupOf at h
  cases e : H a with
  | none => simp [e] at h
  | some o => cases o <;> simp [e] at h; subst h; exact ⟨a, rfl, e⟩
 | _ => simp [tupOf] at h
section
variable {K : PySem.W.Frag}
theorem ty_of {H : Hp} {v : V} (k : Kn H 1 v) : ∃ t, TyOf K H v t ∧ PySem.W.kitOne K t (.type "int") = some (isInt v || isBl v) ∧ PySem.W.kitOne K t (.type "bool") = some (isBl v) ∧ PySem.W.kitOne K t (.type "tuple") = some (tupOf H v).isSome := by
 cases v with
 | non => exact ⟨_, .non, by kernel_rfl, by kernel_rfl, by kernel_rfl⟩
 | bl b => exact ⟨_, .bl b, by kernel_rfl, by kernel_rfl, by kernel_rfl⟩
 | int i => exact ⟨_, .int i, by kernel_rfl, by kernel_rfl, by kernel_rfl⟩
 | str x => exact ⟨_, .str x, by kernel_rfl, by kernel_rfl, by kernel_rfl⟩
 | ref a =>
  rcases k with ⟨xs, k⟩ | ⟨kvs, k⟩ | ⟨xs, k, hl, hx⟩
  ·refine ⟨_, .lst k, by kernel_rfl, by kernel_rfl, ?_⟩
   have : (tupOf H (.ref a)).isSome = false := by simp [tupOf, k]
   rw [this]; kernel_rfl
  ·refine ⟨_, .dK k, by kernel_rfl, by kernel_rfl, ?_⟩
   have : (tupOf H (.ref a)).isSome = false := by simp [tupOf, k]
   rw [this]; kernel_rfl
  ·refine ⟨_, .tup k, by kernel_rfl, by kernel_rfl, ?_⟩
   have : (tupOf H (.ref a)).isSome = true := by simp [tupOf, k]
   rw [this]; kernel_rfl
 | _ => exact (show False from k).elim
end
noncomputable def numIn (lo hi : Int) : V → Bool | .int i => decide (lo ≤ i) && decide (i ≤ hi) | _ => false
noncomputable def PenAt (H : Hp) (p : Addr) : Prop := ∃ x f : Int, H p = some (.lst [.int x, .int f])
structure Stp (p : Addr) (H H' : Hp) : Prop where
 pen : PenAt H' p
 keep : ∀ b o, b ≠ p → H b = some o → H' b = some o
theorem Stp.refl {p : Addr} {H : Hp} (h : PenAt H p) : Stp p H H := ⟨h, fun _ _ _ e => e⟩
theorem Stp.trans {p : Addr} {H H1 H2 : Hp} (a : Stp p H H1) (b : Stp p H1 H2) : Stp p H H2 := ⟨b.pen, fun c o h e => b.keep c o h (a.keep c o h e)⟩
theorem Stp.same {p : Addr} {H H1 H2 : Hp} (a : Stp p H H1) (s : Same H1 H2) : Stp p H H2 := ⟨let ⟨x, f, e⟩ := a.pen; ⟨x, f, s _ _ e⟩, fun b o h e => s _ _ (a.keep b o h e)⟩
theorem PenAt.ne {H : Hp} {p b : Addr} {o : HO} (h : PenAt H p) (e : H b = some o) (n : ∀ xs, o ≠ .lst xs) : b ≠ p := fun z => by
 obtain ⟨x, f, e2⟩ := h
 rw [z, e2] at e
 cases e
 exact n _ rfl
theorem Stp.ext {p : Addr} {H H' : Hp} (h : PenAt H p) (s : Stp p H H') : Ext H H' where
 tup := fun a xs e => s.keep a _ (h.ne e (by intro z; simp)) e
 lst := fun a xs e => by
  by_cases ha : a = p
  ·obtain ⟨x, f, e2⟩ := s.pen
   exact ⟨_, by rw [ha]; exact e2⟩
  ·exact ⟨xs, s.keep a _ ha e⟩
 dct := fun a kvs e => s.keep a _ (h.ne e (by intro z; simp)) e
end L2
namespace L2
open PySem PySem.Spec PyProof.Rows
theorem comp_map {K : PySem.W.Frag} {a l : Addr} {xs : List V} {te : TE} {H0 : Hp} {rest : St} {Q : St → Hp → Prop} (f : V → V) (ha : H0 a = some (.tup xs)) (hl : H0 l = none) (hz : xs.length ≤ 1000)
  (turn : ∀ x H' Q', x ∈ xs → Same H0 H' → (∀ H2, Same H' H2 → Q' (f x) H2) → te (some x :: rest) H' Q') (hQ : ∀ σ H', Same H0 H' → H' l = some (.lst (xs.map f)) → Q σ H') :
  tForJ (Itt K a) (gName 0) (tBodyC tAll (tEmit l te)) (eC Q) (none :: rest) (upd H0 l (.lst [])) := by
 have s0 : Same H0 (upd H0 l (.lst [])) := same_upd hl
 refine for_tup (K := K) (a := a) (xs := xs) (fun i σ H' => (∃ o, σ = o :: rest) ∧ Same H0 H' ∧ H' l = some (.lst ((xs.take i).map f))) ⟨⟨_, rfl⟩, s0, by rw [upd_same]; rfl⟩ (fun i σ H' _ h => SqT.of (h.2.1 _ _ ha)) ?_ ?_
 ·rintro i x σ H' hx ⟨⟨o, rfl⟩, hs, hl'⟩
  show tEmit l te (some x :: rest) H' _
  refine turn x H' _ (List.mem_of_getElem? hx) hs fun H2 h2 => ?_
  refine ⟨_, h2 _ _ hl', ?_, ⟨_, rfl⟩, fun b u e => ?_, ?_⟩
  ·rw [List.length_map, List.length_take]
   exact small1000 (by omega)
  ·rw [upd_ne (ne_of_none e hl)]; exact h2 _ _ (hs _ _ e)
  ·rw [upd_same, List.take_succ, hx, List.map_append]; rfl
 ·rintro σ H' ⟨_, hs, hl'⟩
  rw [List.take_of_length_le (Nat.le_refl _)] at hl'
  exact hQ σ H' hs hl'
theorem body_all {tb : TC} {D : Ends} {σ : St} {H : Hp} (h : tb σ H D.nx) : tBodyC tAll tb D σ H := by
 show (if true = true then tb σ H D.nx else D.nx σ H)
 exact iteT h
theorem body_name {i : Nat} {v : V} {tb : TC} {D : Ends} {σ : St} {H : Hp} (h : tb (σ.set i (some v)) H D.nx) : gName i v σ H (fun σ2 H2 => tBodyC tAll tb D σ2 H2) := body_all h
theorem iteB {b : Bool} {A B : Prop} (h1 : b = true → A) (h2 : b = false → B) : if b = true then A else B := by
 cases b with
 | true => exact iteT (h1 rfl)
 | false => exact iteF (h2 rfl)
theorem ite2d {c : Prop} [Decidable c] {A B : Prop} (h1 : c → A) (h2 : ¬ c → B) : if decide c = true then A else B := by
 by_cases h : c
 ·rw [decide_eq_true h]; exact iteT (h1 h)
 ·rw [decide_eq_false h]; exact iteF (h2 h)
end L2
namespace L2
open PySem PySem.Spec PyProof.Rows
noncomputable def PlAt (H : Hp) (ps : List Addr) (cs : List (Int × Int)) : Prop := Paired (fun p c => H p = some (.tup [.int c.1, .int c.2])) ps cs
theorem PlAt.snoc {H : Hp} {ps : List Addr} {cs : List (Int × Int)} {p : Addr} {c : Int × Int} (h : PlAt H ps cs) (e : H p = some (.tup [.int c.1, .int c.2])) : PlAt H (ps ++ [p]) (cs ++ [c]) := Paired.snoc h e
end L2
namespace L2
open PySem PySem.Spec PyProof.Rows
section
variable {X : Cx}
theorem preSum_take (ns : List Int) : ∀ j : Nat, preSum (fun i => (ns[i]?).getD 0) j = (ns.take j).sum
 | 0 => by simp [preSum]
 | j + 1 => by
  have ih := preSum_take ns j
  rw [List.take_succ, List.sum_append]
  show preSum (fun i => (ns[i]?).getD 0) j + (ns[j]?).getD 0 = _
  rw [ih]
  cases ns[j]? <;> simp
theorem sum_small {B : Int} (hB : 0 ≤ B) : ∀ {ns : List Int}, (∀ n ∈ ns, -B ≤ n ∧ n ≤ B) → -(B * ns.length) ≤ ns.sum ∧ ns.sum ≤ B * ns.length
 | [], _ => by simp
 | n :: ns, h => by
  have ih := sum_small hB (ns := ns) fun m hm => h m (List.mem_cons_of_mem _ hm)
  have h0 := h n List.mem_cons_self
  rw [List.sum_cons, List.length_cons]
  have e : B * ((ns.length + 1 : Nat) : Int) = B * (ns.length : Int) + B := by
   rw [Int.natCast_add, Int.mul_add]; simp
  rw [e]
  constructor <;> omega
end
end L2
namespace Srt
theorem lex_irr : ∀ xs : List Int, HT.lexLt xs xs = false
 | [] => rfl
 | x :: xs => by rw [HT.lexLt_cons, if_pos rfl]; exact lex_irr xs
theorem lex_tr : ∀ {xs ys zs : List Int}, HT.lexLt xs ys = true → HT.lexLt ys zs = true → HT.lexLt xs zs = true
 | [], [], _, h, _ => by cases h
 | [], _ :: _, [], _, h => by cases h
 | [], _ :: _, _ :: _, _, _ => rfl
 | _ :: _, [], _, h, _ => by cases h
 | _ :: _, _ :: _, [], _, h => by cases h
 | x :: xs, y :: ys, z :: zs, h1, h2 => by
  rw [HT.lexLt_cons] at h1 h2 ⊢
  by_cases e1 : x = y
  ·subst e1
   rw [if_pos rfl] at h1
   by_cases e2 : x = z
   ·subst e2
    rw [if_pos rfl] at h2 ⊢
    exact lex_tr h1 h2
   ·rw [if_neg e2] at h2 ⊢; exact h2
  ·rw [if_neg e1, decide_eq_true_eq] at h1
   by_cases e2 : y = z
   ·subst e2
    rw [if_neg e1, decide_eq_true_eq]; exact h1
   ·rw [if_neg e2, decide_eq_true_eq] at h2
    rw [if_neg (by omega), decide_eq_true_eq]; omega
theorem lex_tot : ∀ {xs ys : List Int}, HT.lexLt xs ys = false → HT.lexLt ys xs = false → xs = ys
 | [], [], _, _ => rfl
 | [], _ :: _, h, _ => by cases h
 | _ :: _, [], _, h => by cases h
 | x :: xs, y :: ys, h1, h2 => by
  rw [HT.lexLt_cons] at h1 h2
  by_cases e : x = y
  ·subst e
   rw [if_pos rfl] at h1 h2
   rw [lex_tot h1 h2]
  ·rw [if_neg e, decide_eq_false_iff_not] at h1
   rw [if_neg (fun z => e z.symm), decide_eq_false_iff_not] at h2
   omega
noncomputable def rank (rows : List (List Int)) (x : List Int) : Int := (rows.countP fun z => HT.lexLt z x : Nat)
theorem count_le {α : Type} {p q : α → Bool} : ∀ {l : List α}, (∀ a ∈ l, p a = true → q a = true) → l.countP p ≤ l.countP q
 | [], _ => by simp
 | a :: l, h => by
  have ih := count_le (p := p) (q := q) (l := l) fun b hb => h b (List.mem_cons_of_mem _ hb)
  rw [List.countP_cons, List.countP_cons]
  have := h a List.mem_cons_self
  cases hp : p a <;> cases hq : q a <;> simp_all <;> omega
theorem count_lt {α : Type} {p q : α → Bool} {x : α} : ∀ {l : List α}, (∀ a ∈ l, p a = true → q a = true) → x ∈ l → p x = false → q x = true → l.countP p < l.countP q
 | [], _, hx, _, _ => by cases hx
 | a :: l, h, hx, hp, hq => by
  have hl : ∀ b ∈ l, p b = true → q b = true := fun b hb => h b (List.mem_cons_of_mem _ hb)
  rw [List.countP_cons, List.countP_cons]
  rcases List.mem_cons.mp hx with e | e
  ·subst e
   have := count_le hl
   rw [hp, hq]
   simp
   omega
  ·have ih := count_lt hl e hp hq
   have := h a List.mem_cons_self
   cases hp' : p a <;> cases hq' : q a <;> simp_all <;> omega
theorem rank_lt {rows : List (List Int)} {x y : List Int} (hx : x ∈ rows) (hy : y ∈ rows) : decide (rank rows x < rank rows y) = HT.lexLt x y := by
 unfold rank
 cases h : HT.lexLt x y with
 | true =>
  rw [decide_eq_true_eq]
  have := count_lt (l := rows) (p := fun z => HT.lexLt z x) (q := fun z => HT.lexLt z y) (fun a _ ha => lex_tr ha h) hx (lex_irr x) h
  omega
 | false =>
  rw [decide_eq_false_iff_not]
  have : rows.countP (fun z => HT.lexLt z y) ≤ rows.countP (fun z => HT.lexLt z x) := by
   refine count_le fun a _ ha => ?_
   cases h2 : HT.lexLt y x with
   | true => exact lex_tr ha h2
   | false => rw [lex_tot h h2]; exact ha
  omega
end Srt
namespace L2
open PySem PySem.Spec PyProof.Rows Srt
section
variable {prog : Program} {w : World} {A : Around}
theorem lex_same {C : Bool → Shared → Prop} {s : Shared} {b : Bool} : ∀ {xs ys : List Int} {us ws : List Value} (i : Nat), Vals (xs.map V.int) us → Vals (ys.map V.int) ws → C (HT.lexLt xs ys) s →
  PySem.W.KatLex prog w A b (decide (xs.length < ys.length)) C (us.zip ws) i s
 | [], [], _, _, i, .nil, .nil, h => by
  show C (decide (0 < 0)) s
  exact h
 | [], y :: ys, _, _, i, .nil, .cons _ _, h => by
  show C (decide (0 < ys.length + 1)) s
  rw [decide_eq_true (by omega)]; exact h
 | x :: xs, [], _, _, i, .cons _ _, .nil, h => by
  show C (decide (xs.length + 1 < 0)) s
  rw [decide_eq_false (by omega)]; exact h
 | x :: xs, y :: ys, _, _, i, .cons r1 t1, .cons r2 t2, h => by
  obtain ⟨t, rfl⟩ := r1
  obtain ⟨u, rfl⟩ := r2
  rw [HT.lexLt_cons] at h
  refine PySem.W.kat_cons (wpAny_eqBool_int ?_)
  by_cases e : x = y
  ·subst e
   rw [if_pos rfl] at h
   rw [show (x == x) = true by simp]
   refine PySem.W.kat_yes ?_
   have := lex_same (b := b) (i + 1) t1 t2 h
   rw [show decide ((x :: xs).length < (x :: ys).length) = decide (xs.length < ys.length) by simp]
   exact this
  ·rw [if_neg e] at h
   rw [show (x == y) = false by simpa using e]
   refine PySem.W.kat_no ?_
   cases b && i == 0 with
   | true => exact oneLt_int h
   | false => exact PySem.W.kat_one _ _ (PyProof.Rows.lt_int (show PySem.W.BoolBack C (Value.bool (decide (x < y))) s from h))
end
theorem refs_of : ∀ {as : List Addr} {us : List Value}, Vals (as.map V.ref) us → us = as.map Value.ref
 | [], _, .nil => rfl
 | a :: as, _, .cons r t => by rw [refs_of t]; cases (show _ = Value.ref a from r); rfl
theorem vals_fst : ∀ zs : List (Addr × List Int), Vals (zs.map fun z => V.ref z.1) (zs.map fun z => Value.ref z.1)
 | [] => .nil
 | z :: zs => .cons rfl (vals_fst zs)
section
variable {X : Cx}
noncomputable def Sorted2 (zs zs' : List (Addr × List Int)) : Prop := zs'.Perm zs ∧ zs'.Pairwise fun a b => HT.lexLt b.2 a.2 = false
theorem sorted_out {zs : List (Addr × List Int)} {p : Array Nat} (hp : Pm zs.length p) (hu : Up (fun i => rank (zs.map (·.2)) ((zs.getD i (0, [])).2)) p zs.length) : Sorted2 zs (p.toList.map fun i => zs.getD i (0, [])) := by
 have hperm := Array.perm_iff_toList_perm.mp hp
 constructor
 ·have h1 := hperm.map fun i => zs.getD i (0, [])
  refine h1.trans (List.Perm.of_eq ?_)
  refine List.ext_getElem (by simp) fun i a b => ?_
  simp [b]
 ·rw [List.pairwise_map, List.pairwise_iff_getElem]
  intro i j hi hj hij
  have hsz : p.toList.length = zs.length := by rw [Array.length_toList, hp.size]
  have h1 := hu i j (by omega) (by omega)
  have mem : ∀ k (hk : k < p.toList.length), (zs.getD (p.toList[k]'hk) (0, [])).2 ∈ zs.map (·.2) := fun k hk => by
   have : p.toList[k] < zs.length := by
    have := hperm.mem_iff.mp (List.getElem_mem hk)
    simpa using this
   have e : zs.getD p.toList[k] (0, []) = zs[p.toList[k]] := by rw [List.getD_eq_getElem?_getD, List.getElem?_eq_getElem this]; rfl
   rw [e]
   exact List.mem_map_of_mem (List.getElem_mem _)
  have e : ∀ k (hk : k < p.toList.length), at' p k = p.toList[k] := fun k hk => by
   have : k < p.size := by simpa using hk
   unfold at'; simp [Array.getD, this]
  unfold R at h1
  rw [e i hi, e j hj] at h1
  rw [← rank_lt (mem j hj) (mem i hi), decide_eq_false_iff_not]
  exact Int.not_lt.mpr h1
theorem sorted_gen {pins : List (Addr × Obj)} {s : Shared} {σ : St} {H : Hp} {Q : VK} {p : Addr} {zs : List (Addr × List Int)} (I : Inv X pins σ H s) (hz : ∀ z ∈ zs, H z.1 = some (.tup (z.2.map V.int)) ∧ z.2 ≠ []) (h64 : zs.length < 64)
  (hcol : ∀ Q' : List Value → Shared → Prop, (∀ h1 tk, (∀ b o, s.heap.get? b = some o → h1.get? b = some o) → s.heap.objs.size ≤ h1.objs.size → Q' (zs.map fun z => Value.ref z.1) { s with heap := h1, toks := tk }) → wpAny (model X.prog X.w) X.A.in1 (collect (.ref p)) Q' X.xe s)
  (q : ∀ l zs', H l = none → Sorted2 zs zs' → Q (.ref l) (upd H l (.lst (zs'.map fun z => V.ref z.1)))) : wpAny (model X.prog X.w) X.A (call (.builtin "sorted") [.ref p]) (EP X pins σ Q) X.xe s := by
 have tup : ∀ (h' : Heap), (∀ b o, s.heap.get? b = some o → h'.get? b = some o) → ∀ z ∈ zs, ∃ it : List Value, Vals (z.2.map V.int) it ∧ ∃ o n, h'.get? z.1 = some o ∧ o.cls = .type "tuple" ∧ o.data = .seq it.toArray n := fun h' k z hm => by
  obtain ⟨_, it, rt, o, ho, hc, n, hd⟩ := (show ObjOk X.prog X.w H s.heap z.1 (.tup _) from I.hok _ _ (hz z hm).1)
  exact ⟨it, rt, o, n, k _ _ ho, hc, hd⟩
 have gd : ∀ i, i < zs.length → (zs.map fun z => Value.ref z.1).getD i Value.none = .ref (zs.getD i (0, [])).1 ∧ zs.getD i (0, []) ∈ zs := fun i hi => by
  constructor
  ·simp [hi]
  ·rw [show zs.getD i (0, []) = zs[i] by simp [hi]]; exact List.getElem_mem _
 refine sorted_raw (κ := tuples' true) (r := fun i => rank (zs.map (·.2)) ((zs.getD i (0, [])).2)) (vs := zs.map fun z => Value.ref z.1) (by rw [List.length_map]; exact h64) (fun Q' k => ?_) (fun h1 tk k1 h2 => ⟨fun Q2 q2 => ?_, fun i j C hi hj hC => ?_⟩) fun D h' tk c pp hD hp hu o' k' => ?_
 ·exact hcol Q' k
 ·have key : ∀ ys : List (Addr × List Int), (∀ z ∈ ys, z ∈ zs) → ∃ fs : List Value, PySem.W.KatTups h1 (ys.map fun z => Value.ref z.1) fs ∧ fs.length = ys.length ∧ ∀ v ∈ fs, ∃ n t, v = .int n t := fun ys => by
   induction ys with
   | nil => intro _; exact ⟨[], trivial, rfl, fun v hv => by cases hv⟩
   | cons z ys ih =>
    intro hm
    obtain ⟨fs, g1, g2, g3⟩ := ih fun y hy => hm y (List.mem_cons_of_mem _ hy)
    obtain ⟨it, rt, o, n, ho, hc, hd⟩ := tup h1 k1 z (hm z List.mem_cons_self)
    obtain ⟨x, xs', ex⟩ := List.exists_cons_of_ne_nil (hz z (hm z List.mem_cons_self)).2
    rw [ex] at rt
    cases rt with
    | cons r0 t0 =>
     obtain ⟨t, rfl⟩ := r0
     exact ⟨.int x t :: fs, PySem.W.KatTups.cons ho hc hd (by simp) g1, by simp [g2], fun v hv => by
      rcases List.mem_cons.mp hv with e | e
      ·exact ⟨x, t, e⟩
      ·exact g3 v e⟩
  obtain ⟨fs, g1, g2, g3⟩ := key zs fun z hz => hz
  rw [List.length_map] at h2
  refine PySem.W.kat_kind (T := .type "int") (s := { s with heap := h1, toks := tk }) g1 (by omega) (fun v hv => ?_) rfl q2
  obtain ⟨n, t, rfl⟩ := g3 v hv
  exact PySem.W.Looks.of_pure rfl
 ·rw [List.length_map] at hi hj
  obtain ⟨ei, mi⟩ := gd i hi
  obtain ⟨ej, mj⟩ := gd j hj
  show wpAny _ _ (keyLt' (tuples' true) ((zs.map fun z => Value.ref z.1).getD i Value.none) ((zs.map fun z => Value.ref z.1).getD j Value.none)) C (fun _ _ => False) _
  rw [ei, ej]
  obtain ⟨it, rt, o, n, ho, hc, hd⟩ := tup h1 k1 _ mi
  obtain ⟨it2, rt2, o2, n2, ho2, hc2, hd2⟩ := tup h1 k1 _ mj
  rw [rank_lt (List.mem_map_of_mem mi) (List.mem_map_of_mem mj)] at hC
  refine PySem.W.kat_lt (s := { s with heap := h1, toks := tk }) ho hd ho2 hd2 ?_
  have l1 := rt.length
  have l2 := rt2.length
  rw [List.length_map] at l1 l2
  rw [List.size_toArray, List.size_toArray, ← l1, ← l2]
  exact lex_same 0 rt rt2 hC
 ·rw [List.length_map] at hp hu
  have so := sorted_out hp hu
  have eo : (pp.toList.map fun i => (zs.map fun z => Value.ref z.1).getD i Value.none) = (pp.toList.map fun i => zs.getD i (0, [])).map fun z => Value.ref z.1 := by
   rw [List.map_map]
   refine List.map_congr_left fun i hi => ?_
   have : i < zs.length := by
    have := (Array.perm_iff_toList_perm.mp hp).mem_iff.mp hi
    simpa using this
   exact (gd i this).1
  rw [eo] at o'
  have hlen := so.1.length_eq
  refine ⟨.ref D, _, I.laid (t' := tk) (o := .lst ((pp.toList.map fun i => zs.getD i (0, [])).map fun z => V.ref z.1)) k' hD ⟨by rw [List.length_map, hlen, sizeLine_eq]; omega, _, c, ?_, o'⟩, rfl, q _ _ (I.hok.fresh hD) so⟩
  exact vals_fst _
theorem call_sortedT : CallR X (.builtin "sorted") (fun xs H Q => ∃ (p : Addr) (zs : List (Addr × List Int)), xs = [.ref p] ∧ SqL X.K H p (zs.map fun z => V.ref z.1) ∧ (∀ z ∈ zs, H z.1 = some (.tup (z.2.map V.int)) ∧ z.2 ≠ []) ∧ zs.length < 64 ∧
  ∀ l zs', H l = none → Sorted2 zs zs' → Q (.ref l) (upd H l (.lst (zs'.map fun z => V.ref z.1)))) := by
 intro pins s σ H xs us Q I r h
 obtain ⟨p, zs, rfl, hq, hz, h64, q⟩ := h
 obtain ⟨u, rfl, rx⟩ := vals1 r
 cases rx
 obtain ⟨its, rv, pl, _⟩ := I.list hq
 have hits : its = zs.map fun z => Value.ref z.1 := by
  have := refs_of (as := zs.map (·.1)) (us := its) (by rw [List.map_map]; exact rv)
  rw [this, List.map_map]; rfl
 subst hits
 have isl := pl.isList
 refine sorted_gen I hz h64 (fun Q' k => ?_) q
 refine collect_list isl ?_ (by rw [List.length_map, sizeLine_eq]; omega)
 refine k _ s.toks (fun b o e => ?_) (by rw [Heap.size_update, size_push']; exact Nat.le_succ _)
 rw [Heap.get?_update_ne _ _ _ _ (Nat.ne_of_lt (Heap.lt_size e))]
 exact Heap.get?_push_of_some _ e
end
end L2
namespace L2
open PySem PySem.Spec PyProof.Rows
end L2
namespace L2
open PySem PySem.Spec PyProof.Rows
theorem ObjOk.isThere {P : Program} {w : World} {H : Hp} {h : Heap} {a : Addr} {o : HO} (x : ObjOk P w H h a o) : ∃ u, h.get? a = some u := by
 cases o with
 | lst xs => obtain ⟨_, _, _, _, e⟩ := x; exact ⟨_, e⟩
 | tup xs => obtain ⟨_, _, _, u, e, _⟩ := x; exact ⟨u, e⟩
 | dK kvs => obtain ⟨_, _, _, _, o, _, _, e, _⟩ := x; exact ⟨_, e⟩
 | dT kvs => obtain ⟨_, _, _, _, o, _, _, e, _⟩ := x; exact ⟨_, e⟩
 | set S n => obtain ⟨o, _, _, _, e, _⟩ := x; exact ⟨_, e⟩
 | ins C dx fs => obtain ⟨_, _, _, e, _⟩ := x; exact ⟨_, e⟩
 | own y => exact x
 | xd fs => obtain ⟨_, ⟨_, _, _, e, _⟩, _⟩ := x; exact ⟨_, e⟩
 | rng lo hi => obtain ⟨_, _, _, e⟩ := x; exact ⟨_, e⟩
 | frz ob u => obtain ⟨e, _⟩ := x; exact ⟨_, e⟩
 | tbl ps => exact ⟨_, (show h.get? a = some _ from x)⟩
 | met f y => exact ⟨_, (show h.get? a = some _ from x)⟩
 | ext φ => obtain ⟨_, e, _⟩ := x; exact e
theorem HOk.tracked {P : Program} {w : World} {H : Hp} {h h' : Heap} (ok : HOk P w H h) (k : ∀ b u o, H b = some u → h.get? b = some o → h'.get? b = some o) : HOk P w H h' := fun a o e =>
 (ok a o e).stay (fun b u hb q => by
  rcases hb with z | z
  ·subst z; exact k _ _ _ e q
  ·exact k _ _ _ z q) (fun _ q => q) fun _ _ q => q
structure Fly (P : Program) (w : World) (outer : List Env) (H : Hp) (s : Shared) (e : Addr) (cls : Value) (H' : Hp) (s' : Shared) : Prop where
 os : s'.os = s.os
 bare : AllBare s'.gens
 un : Un (frs outer) [] H H' s.heap s'.heap
 hok : HOk P w H' s'.heap
 fly : ∃ B a0, Heap.FlyingW B outer e cls a0 s'.heap ∧ (∀ b o, s.heap.get? b = some o → H b = none → b ∉ frs outer → B.get? b = some o) ∧ (∀ b o, s.heap.get? b = some o → b ∉ frs outer → ∃ o', B.get? b = some o') ∧ ∀ b u, H' b = some u → ∃ o, B.get? b = some o
theorem frs_cons {env : Env} {l : List Env} {b : Addr} (h : b ∈ frs l) : b ∈ frs (env :: l) := by
 obtain ⟨e, he, hb⟩ := List.mem_filterMap.mp h
 exact List.mem_filterMap.mpr ⟨e, List.mem_cons_of_mem _ he, hb⟩
section
variable {X : Cx} {pins : List (Addr × Obj)} {σ : St} {H H' : Hp} {s s' : Shared} {cls : Value} {e : Addr} {Q : Unit → Shared → Prop} {E' : Value → Shared → Prop}
theorem Inv.notOwn (I : Inv X pins σ H s) {b : Addr} {o : Obj} (q : X.s₀.heap.get? b = some o) (hb : b ∉ X.fs) : b ∉ frs X.stack := fun hm => by
 rcases List.mem_cons.mp (I.stkSub b hm) with z | z
 ·exact absurd (Nat.lt_of_lt_of_le (Heap.lt_size q) I.ok.above) (by rw [z]; exact Nat.lt_irrefl _)
 ·exact hb z
theorem raise_out (I : Inv X pins σ H s) (hs : X.stack = X.env :: X.outer) (hf : X.env.frame = some X.env.locals) (hex : X.ex = []) {h1 : Heap} {args : List Value} (hx : Heap.MadeExcOf s.heap h1 e cls args)
  (k : ∀ h', Fly X.prog X.w X.outer X.H₀ X.s₀ e cls H { s with heap := h' } → Q () { s with heap := h' }) : wpAny (model X.prog X.w) X.A (leaving X.env (.ref e)) Q E' { s with heap := h1 } := by
 have st : s.heap.FunFrames X.base X.stack := I.stack
 have hin : ∀ env ∈ X.stack, ∀ b, env.frame = some b → b ∈ frs X.stack := fun env he b hb => List.mem_filterMap.mpr ⟨env, he, hb⟩
 have fB := PySem.W.funFrames_hide (as := frs X.stack) st hin
 have hfr := I.ok.frames
 rw [hs] at hfr fB
 refine wpAny_leaves_madeW (base := PySem.W.hideAll s.heap (frs X.stack)) (h := s.heap) hfr hf (fun b o q => PySem.W.of_hideAll _ q) (by rw [hs]; exact fB) hx fun h' t x1 x2 x3 x4 => k h' ?_
 have nex : ∀ b, b ∉ X.ex := fun b hb => by rw [hex] at hb; cases hb
 have kB : ∀ b o, s.heap.get? b = some o → b ∉ frs X.stack → (PySem.W.hideAll s.heap (frs X.stack)).get? b = some o := fun b o q n => PySem.W.hideAll_get _ q n
 have kS : ∀ b o, s.heap.get? b = some o → b ∈ frs X.stack → ∃ sl, h'.get? b = some { o with slots := sl } := fun b o q hb => x4 b o (hx.keeps b o q) (by
  obtain ⟨_, o', ho', hd⟩ := st.mem hb
  rw [q] at ho'; cases ho'; exact hd)
 have kT : ∀ b u, H b = some u → b ∉ frs X.stack := fun b u q hb => by
  have := I.stkFree b hb
  rw [q] at this; cases this
 have up : ∀ {b : Addr}, b ∈ X.fs → b ∈ frs X.stack := fun hb => by rw [hs]; exact frs_cons hb
 refine ⟨I.os, I.bare, ⟨fun b o q n hb _ => ?_, fun b o q n hb _ => ?_, fun b o q n _ => I.base.free b o q n (nex b), fun b o q _ => ?_, I.base.tups, I.base.frzs, I.base.tbls⟩, I.hok.tracked fun b u o q z => x1.1 b o (kB b o z (kT b u q)), _, _, x1, fun b o q n hb => ?_, fun b o q hb => ?_, fun b u q => ?_⟩
 ·exact x1.1 b o (kB b o (I.base.keep b o q n hb (nex b)) (I.notOwn q hb))
 ·obtain ⟨sl, e1⟩ := I.base.slot b o q n hb (nex b)
  obtain ⟨sl', e2⟩ := kS b _ e1 (up hb)
  exact ⟨sl', e2⟩
 ·obtain ⟨o', e1⟩ := I.base.there b o q (nex b)
  by_cases hm : b ∈ frs X.stack
  ·obtain ⟨sl, e2⟩ := kS b o' e1 hm; exact ⟨_, e2⟩
  ·exact ⟨o', x1.1 b o' (kB b o' e1 hm)⟩
 ·exact kB b o (I.base.keep b o q n hb (nex b)) (I.notOwn q hb)
 ·obtain ⟨o', e1⟩ := I.base.there b o q (nex b)
  exact ⟨o', kB b o' e1 (I.notOwn q hb)⟩
 ·obtain ⟨o, e1⟩ := (I.hok b u q).isThere
  exact ⟨o, kB b o e1 (kT b u q)⟩
theorem Fly.over (I : Inv X pins σ H s) (hs : X.stack = X.env :: X.outer) (hex : X.ex = []) (F : Fly X.prog X.w X.stack H s e cls H' s') {B : Heap} {a0 : Value} (hfl : Heap.FlyingW B X.stack e cls a0 s'.heap)
  (g1 : ∀ b o, s.heap.get? b = some o → H b = none → b ∉ frs X.stack → B.get? b = some o) (g2 : ∀ b o, s.heap.get? b = some o → b ∉ frs X.stack → ∃ o', B.get? b = some o') (g3 : ∀ b u, H' b = some u → ∃ o, B.get? b = some o)
  {h' : Heap} (hfl' : Heap.FlyingW B X.outer e cls a0 h') (hu : s'.heap.UpToSlots h') : Fly X.prog X.w X.outer X.H₀ X.s₀ e cls H' { s' with heap := h' } := by
 have nex : ∀ b, b ∉ X.ex := fun b hb => by rw [hex] at hb; cases hb
 have up : ∀ {b : Addr}, b ∈ X.fs → b ∈ frs X.stack := fun hb => by rw [hs]; exact frs_cons hb
 have kS : ∀ b o, s'.heap.get? b = some o → b ∈ frs X.stack → ∃ sl, h'.get? b = some { o with slots := sl } := fun b o q hb => hu b o q (by
  obtain ⟨_, o', ho', hd⟩ := hfl.2.2.1.mem hb
  rw [q] at ho'; cases ho'; exact hd)
 refine ⟨F.os.trans I.os, F.bare, ⟨fun b o q n hb _ => ?_, fun b o q n hb _ => ?_, fun b o q n _ => ?_, fun b o q _ => ?_, fun b xs q => F.un.tups b xs (I.base.tups b xs q), fun b o u q => F.un.frzs b o u (I.base.frzs b o u q), fun b ps q => ?_⟩, ?_, B, a0, hfl', fun b o q n hb => ?_, fun b o q hb => ?_, g3⟩
 ·exact hfl'.1 b o (g1 b o (I.base.keep b o q n hb (nex b)) (I.base.free b o q n (nex b)) (I.notOwn q hb))
 ·obtain ⟨sl, e1⟩ := I.base.slot b o q n hb (nex b)
  obtain ⟨sl', e2⟩ := F.un.slot b _ e1 (I.base.free b o q n (nex b)) (up hb) (by simp)
  obtain ⟨sl'', e3⟩ := kS b _ e2 (up hb)
  exact ⟨sl'', e3⟩
 ·obtain ⟨o', e1⟩ := I.base.there b o q (nex b)
  exact F.un.free b o' e1 (I.base.free b o q n (nex b)) (by simp)
 ·obtain ⟨o', e1⟩ := I.base.there b o q (nex b)
  by_cases hm : b ∈ frs X.stack
  ·obtain ⟨o2, e2⟩ := F.un.there b o' e1 (by simp)
   obtain ⟨sl, e3⟩ := kS b o2 e2 hm; exact ⟨_, e3⟩
  ·obtain ⟨o2, e2⟩ := g2 b o' e1 hm
   exact ⟨o2, hfl'.1 b o2 e2⟩
 ·obtain ⟨m1, e1⟩ := I.base.tbls b ps q
  obtain ⟨m2, e2⟩ := F.un.tbls b _ e1
  exact ⟨m1 ++ m2, by rw [e2, Array.append_assoc]⟩
 ·refine F.hok.tracked fun b u o q z => ?_
  obtain ⟨o', e1⟩ := g3 b u q
  have := hfl.1 b o' e1
  rw [z] at this; cases this
  exact hfl'.1 b _ e1
 ·exact g1 b o (I.base.keep b o q n hb (nex b)) (I.base.free b o q n (nex b)) (I.notOwn q hb)
 ·obtain ⟨o', e1⟩ := I.base.there b o q (nex b)
  exact g2 b o' e1 (I.notOwn q hb)
theorem pass_out (I : Inv X pins σ H s) (hs : X.stack = X.env :: X.outer) (hf : X.env.frame = some X.env.locals) (hex : X.ex = []) (F : Fly X.prog X.w X.stack H s e cls H' s')
  (k : ∀ h', Fly X.prog X.w X.outer X.H₀ X.s₀ e cls H' { s' with heap := h' } → Q () { s' with heap := h' }) : wpAny (model X.prog X.w) X.A (leaving X.env (.ref e)) Q E' s' := by
 obtain ⟨B, a0, hfl, g1, g2, g3⟩ := F.fly
 have hfr := I.ok.frames
 have hfl1 := hfl
 rw [hs] at hfr hfl1
 exact wpAny_leaves_onW hfr hf hfl1 fun h' x1 x2 => k h' (Fly.over I hs hex F hfl g1 g2 g3 x1 x2)
end
noncomputable abbrev bmV : List Value := [.type "ValueError", .type "Exception", .type "BaseException", .type "object"]
structure ExcC (K : PySem.W.Frag) (C : Addr) : Prop where
 ex : PySem.W.excIn K C bmV "ValueError.__new__" = true
theorem ExcC.obj {K : PySem.W.Frag} {C : Addr} {h : Heap} (c : ExcC K C) (X : K.In h) : ∃ bm N nm q bs hdct sn sub ab col dd k0 k1 k2 k3 k5 mN,
  h.get? C = some (excClassObj nm q C N bs bm hdct sn sub ab col dd k0 k1 k2 k3 k5 "ValueError.__new__") ∧ h.Ns N mN ∧ mN "__init__" = none ∧ OwnTail h bmV bm := by
 have z := c.ex
 unfold PySem.W.excIn at z
 split at z
 ·rename_i dct cdat slt look
  split at z
  ·rename_i C2 tl a0 a1 a2 a3 nid a5 m1 m2
   simp only [Bool.and_eq_true, beq_iff_eq, Bool.not_eq_true'] at z
   obtain ⟨⟨⟨⟨⟨rfl, rfl⟩, noDel⟩, tail⟩, isN⟩, noInit⟩ := z
   obtain ⟨y1, y2, y3, y4, y5, y6, y7, y8, y9, y10, y11⟩ := cdat
   dsimp only at m1 noDel isN noInit
   subst m1 noDel
   obtain ⟨ls⟩ := slt
   replace m2 : ls = _ := m2
   subst m2
   refine ⟨tl, y4, y1, y5, y2, y6, y7, y8, y9, y10, dct, a0, a1, a2, a3, a5, _, X _ _ look, ?_, PySem.W.nsMap_none_of_in X isN noInit, PySem.W.tail_of_in X tail⟩
   exact .of_isNs (PySem.W.isNs_of_in X isN)
  ·cases z
 ·cases z
section
variable {X : Cx} {x : Str} {z : Str} {j : Nat} {np p1 cpos pos : Pos} {C : Addr} {E : XK}
end
noncomputable def Cx.within (X : Cx) (e : Addr) (oe : Obj) : Cx := { X with A := X.A.mark (some (.ref e)), calm := false, pn := (e, oe) :: X.pn, xe := fun _ _ => False }
end L2
namespace L2
open PySem PySem.Spec PyProof.Rows
section
variable {X : Cx} {pins : List (Addr × Obj)} {σ : St} {H H' : Hp} {s s' : Shared} {cls a0 : Value} {e : Addr} {oe : Obj} {B h5 : Heap}
theorem Inv.landed (I : Inv X pins σ H s) (F : Fly X.prog X.w X.stack H s e cls H' s') (hfl : Heap.FlyingW B X.stack e cls a0 s'.heap)
  (g1 : ∀ b o, s.heap.get? b = some o → H b = none → b ∉ frs X.stack → B.get? b = some o) (g2 : ∀ b o, s.heap.get? b = some o → b ∉ frs X.stack → ∃ o', B.get? b = some o') (g3 : ∀ b u, H' b = some u → ∃ o, B.get? b = some o)
  (hB : B.StaysIn h5) (hu : s'.heap.UpToSlots h5) : Inv X pins σ H' { s' with heap := h5 } := by
 have kS : ∀ b o, s'.heap.get? b = some o → b ∈ frs X.stack → ∃ sl, h5.get? b = some { o with slots := sl } := fun b o q hb => hu b o q (by
  obtain ⟨_, o', ho', hd⟩ := hfl.2.2.1.mem hb
  rw [q] at ho'; cases ho'; exact hd)
 refine I.call' (s' := { s' with heap := h5 }) (ch := []) F.os ⟨fun b o q n hb _ => hB b o (g1 b o q n hb), fun b o q n hb _ => ?_, fun b o q n _ => F.un.free b o q n (by simp), fun b o q _ => ?_, F.un.tups, F.un.frzs, F.un.tbls⟩ (F.hok.tracked fun b u o q z => ?_) F.bare fun b z => nomatch z
 ·obtain ⟨sl, e2⟩ := F.un.slot b o q n hb (by simp)
  obtain ⟨sl', e3⟩ := kS b _ e2 hb
  exact ⟨sl', e3⟩
 ·by_cases hm : b ∈ frs X.stack
  ·obtain ⟨o2, e2⟩ := F.un.there b o q (by simp)
   obtain ⟨sl, e3⟩ := kS b o2 e2 hm; exact ⟨_, e3⟩
  ·obtain ⟨o2, e2⟩ := g2 b o q hm
   exact ⟨o2, hB b o2 e2⟩
 ·obtain ⟨o', e1⟩ := g3 b u q
  have := hfl.1 b o' e1
  rw [z] at this; cases this
  exact hB b _ e1
theorem Inv.within (I : Inv X pins σ H s) (he : s.heap.get? e = some oe) (hn : H e = none) (hL : e ≠ X.env.locals) (hf : e ∉ X.fs) (hd : ∀ v, oe.data ≠ .cell v) : Inv (X.within e oe) pins σ H s :=
 ⟨⟨I.ok.mod, I.ok.kind, I.ok.glob, I.ok.blt, I.ok.above, I.ok.inj, I.ok.has, I.ok.cab, fun z => (Bool.false_ne_true z).elim, I.ok.frames, I.ok.stk, I.ok.exf, I.ok.bs, I.ok.bsz, I.ok.noex, I.ok.exfs, I.ok.funs, I.ok.frf⟩, I.os, I.bare, I.base, I.loc, I.cell, I.free, I.freeC,
  fun p hp => by
   rcases List.mem_append.mp hp with z | z
   ·rcases List.mem_cons.mp z with y | y
    ·subst y; exact ⟨he, hn, hL, hf, hd⟩
    ·exact I.pin p (List.mem_append_left _ y)
   ·exact I.pin p (List.mem_append_right _ z), I.hok, I.len⟩
theorem Inv.suiteOver (hc : X.A.handled = none) (I : Inv (X.within e oe) [] σ H s) (hpn : X.pn = []) {h' : Heap} {m : Str → Option Value} {t : Nat} (hN : h'.Ns X.env.locals m) (hs : Heap.SameBut X.env.locals s.heap h') : Inv X [] (List.replicate X.N.length none) H { s with heap := h', toks := t } := by
 have below : ∀ b o, X.s₀.heap.get? b = some o → b ≠ X.env.locals := fun b o q => Nat.ne_of_lt (Nat.lt_of_lt_of_le (Heap.lt_size q) I.ok.above)
 refine ⟨⟨I.ok.mod, I.ok.kind, I.ok.glob, I.ok.blt, I.ok.above, I.ok.inj, I.ok.has, I.ok.cab, fun _ => hc, I.ok.frames, I.ok.stk, I.ok.exf, I.ok.bs, I.ok.bsz, I.ok.noex, I.ok.exfs, I.ok.funs, I.ok.frf⟩, I.os, I.bare,
  ⟨fun b o q n hb hx => (hs.2 b (below b o q)).trans (I.base.keep b o q n hb hx), fun b o q n hb hx => let ⟨sl, e1⟩ := I.base.slot b o q n hb hx; ⟨sl, (hs.2 b (below b o q)).trans e1⟩, I.base.free, fun b o q hx => let ⟨o', e1⟩ := I.base.there b o q hx; ⟨o', (hs.2 b (below b o q)).trans e1⟩, I.base.tups, I.base.frzs, I.base.tbls⟩,
  ⟨m, hN, fun i x v _ e2 _ => ?_⟩, fun y c q => ?_, I.free, I.freeC, fun p hp => ?_, I.hok.tracked fun b u o q z => ?_, by simp⟩
 ·rw [List.getElem?_replicate] at e2
  split at e2 <;> cases e2
 ·obtain ⟨w', z⟩ := I.cell y c q
  exact ⟨w', z.sameBut hs (I.cne y c q)⟩
 ·rw [hpn] at hp; cases hp
 ·refine (hs.2 b fun y => ?_).trans z
  have := I.free
  rw [show (X.within e oe).env.locals = X.env.locals from rfl, ← y, q] at this; cases this
end
section
variable {X : Cx} {E : XK} {R : VK} {y n : Str} {i : Nat} {Cy : Addr} {b₀ : Stmt} {suite : List Stmt} {np hp : Pos} {tS : Addr → Obj → TS}
end
section
variable {P : Program} {w : World} {K : PySem.W.Frag} {mg : Str → Option Value} {base : Heap}
end
end L2
namespace L2
open PySem PySem.Spec PyProof.Rows
noncomputable def ObK (K : PySem.W.Frag) (D : Addr) : Prop := ∃ d kd sl, K.lookup D = some ⟨.type "type", d, .cls kd, sl⟩
theorem obK_exc {K : PySem.W.Frag} {D : Addr} {bm : List Value} {n : String} (h : PySem.W.excIn K D bm n = true) : ObK K D := by
 unfold PySem.W.excIn at h
 split at h
 ·rename_i e; exact ⟨_, _, _, e⟩
 ·cases h
structure ExcD (K : PySem.W.Frag) (D : Addr) : Prop where
 ob : ObK K D
 cl : PySem.W.findIn K (.ref D) "__class__" = some (some (.builtin "object.__class__"))
 ga : PySem.W.findIn K (.ref D) "__getattribute__" = some (some (.builtin "BaseException.__getattribute__"))
 gt : PySem.W.findIn K (.ref D) "__getattr__" = some none
 mo : PySem.W.mroIn K D (.type "object") = some true
 mb : PySem.W.mroIn K D (.type "BaseException") = some true
 gg : PySem.W.specialIn K (.builtin "object.__class__") "__get__" = some (some (.builtin "getset_descriptor.__get__"))
 tk : PySem.W.takesIn K (.builtin "object.__class__") = some true
end L2
namespace L2
open PySem PySem.W PySem.Calls PyProof.Rows Builtin Builtin.ObjectAttr Builtin.Getset_descriptor
section
variable {prog : Program} {w : World} {A : Around} {E : Value → Shared → Prop} {K : PySem.W.Frag} {x D : Addr}
theorem exc_find {M : Model} {h : Heap} (X : K.In h) (c : ExcD K D) : PySem.W.Looks M h (find (.ref x) (.ref D) "__class__") (.bind (.builtin "getset_descriptor.__get__") (.builtin "object.__class__")) := by
 refine (PySem.W.looks_findIn X c.cl).andThen ?_
 refine PySem.W.Looks.andThen (a := some (Value.builtin "getset_descriptor.__get__")) (PySem.W.looks_specialIn X c.gg) ?_
 refine PySem.W.Looks.andThen (a := some (Value.builtin "getset_descriptor.__get__", Value.builtin "object.__class__")) ?_ (PySem.W.Looks.tag .now)
 exact (PySem.W.looks_takesIn X c.tk).andThen .now
theorem exc_get {R : Result → Shared → Prop} {s : Shared} {tp : Value} (X : K.In s.heap) (L0 : PySem.W.Looks (model prog w) s.heap (typeOf (.ref x)) (.ref D)) (c : ExcD K D) (h : R (.ok (.ret (.ref D))) s) :
  codeAny (model prog w) A (.call (.builtin "getset_descriptor.__get__") ⟨[.builtin "object.__class__", .ref x, tp], []⟩) R s := by
 obtain ⟨hh, g, dr, t, os⟩ := s
 have LM := PySem.W.looks_mroIn (M := model prog w) X c.mo
 refine codeAny_call_builtin KF.slot_gs.plain KF.entry_gs (KF.slot_gs.check _ _ _ _ _ _ _ _ KF.type_class (KF.args_gs _ _ _) ?_); unfold Builtin.«getset_descriptor.__get__» descrGet; rw [dga_obj]
 refine wpAny_bind (wpAny_pure ?_); unfold descrGetter descrCheckInstance descrNameAndClass isInstance; simp only [KF.owner_class]; repeat lk
 refine ⟨Code.quiet_builtin _ (by decide +kernel), codeAny_builtin KF.entry_class ?_⟩; unfold Builtin.«object.__class__» shownTypeOf; repeat lk
 exact h
theorem exc_class {s : Shared} {Q : Option Value → Shared → Prop} (X : K.In s.heap) {o : Obj} (hx : s.heap.get? x = some o) (hc : o.cls = .ref D) (c : ExcD K D) (h : Q (some (.ref D)) { s with toks := s.toks + 1 }) :
  wpAny (model prog w) A (getAttr? (.ref x) "__class__") Q E s := by
 obtain ⟨hh, g, d, t, os⟩ := s
 have hx : hh.get? x = some o := hx
 have L0 : Looks (model prog w) hh (typeOf (.ref x)) (.ref D) := hc ▸ (Looks.ld hx).andThen .now
 have L1 := looks_findIn (M := model prog w) X c.ga
 have L2' := looks_findIn (M := model prog w) X c.gt
 have LB := looks_mroIn (M := model prog w) X c.mb
 have LF := exc_find (x := x) (M := model prog w) X c
 unfold getAttr? getAttrBy? getAttrBy
 refine wpAny_bind (wpAny_mkText (wpAny_bind (wpAny_attempt (wpAny_holding (wpAny_bind (L0.at (wpAny_bind (L1.at ?_))))))))
 have hne : (onTheHeap (Value.ref D) && Value.builtin "BaseException.__getattribute__" == Value.builtin "object.__getattribute__") = false := by
  rw [show (Value.builtin "BaseException.__getattribute__" == Value.builtin "object.__getattribute__") = false by decide +kernel]; rfl
 dsimp only
 rw [if_neg (by rw [hne]; decide)]
 unfold getAttrByItsOwn hookBefore
 rw [if_pos (show onTheHeap (Value.ref D) = true from rfl)]
 refine wpAny_bind (L2'.at (wpAny_bind (wpAny_attempt (wpAny_holding ?_))))
 unfold callGetattribute boundAndCalled
 rw [if_neg (by decide)]
 refine wpAny_bind (wpAny_of_eq (PySem.F.attr_ValueError.ga.bind (.ref x)) ?_)
 refine wpAny_call (codeAny_call_builtin PySem.F.attr_ValueError.ga.plain PySem.F.entry_bexc_ga ?_)
 have hk : builtinKind "BaseException.__getattribute__" = some .slot := by decide +kernel
 have hsp : splitId "BaseException.__getattribute__" = some ("BaseException", "__getattribute__") := by decide +kernel
 have ha := PySem.F.args_bexc_ga (.ref x) (.str "__class__" t)
 simp only [checkBuiltinCall, hk, hsp]
 have LI : Looks (model prog w) hh (isInstance (.ref x) (.type "BaseException")) true := L0.andThen LB
 refine wpAny_bind (LI.at ?_)
 repeat (first | assumption | wp_step)
 rw [hc]
 have LC := looks_findIn (M := model prog w) X c.cl
 have LG : Looks (model prog w) hh (getOf (some (Value.builtin "object.__class__"))) (some (Value.builtin "getset_descriptor.__get__")) := looks_specialIn X c.gg
 have LD : Looks (model prog w) hh (dataDescriptor? (some (Value.builtin "object.__class__")) (some (Value.builtin "getset_descriptor.__get__"))) (some (Value.builtin "getset_descriptor.__get__", Value.builtin "object.__class__")) := (looks_takesIn X c.tk).andThen .now
 refine LC.at (wpAny_bind (LG.at (wpAny_bind (LD.at (wpAny_bind (wpAny_rule (wpAny_pure ?_)))))))
 dsimp only
 unfold bindTo
 dsimp only
 refine wpAny_bind (wpAny_holding (wpAny_call (exc_get (s := ⟨hh, g, d, t + 1, os⟩) X L0 c (wpAny_pure ?_))))
 exact handed_on rfl (wpAny_pure h)
end
theorem kitx_exc {K : PySem.W.Frag} {x D : Addr} (c : ExcD K D) : PySem.W.KitX K (.ref x) (.ref D) (fun h => ∃ o, h.get? x = some o ∧ o.cls = .ref D) where
 ty := fun M h _ z => let ⟨o, h1, h2⟩ := z; h2 ▸ (PySem.W.Looks.ld h1).andThen .now
 it := fun M h X _ => by
  obtain ⟨oD, kD, lD, look⟩ := c.ob
  have hC := X _ _ look
  intro A' Q' E' s' k z
  unfold isType loadHead
  exact wpAny_bind (wpAny_loadPart (k _ _ hC) (wpAny_pure z))
 ne := fun h tp dd its n sl X htp => Bool.eq_false_iff.mpr fun q => by
  obtain ⟨oD, kD, lD, look⟩ := c.ob
  have hC := X _ _ look
  have e : D = tp := Value.ref.inj (beq_iff_eq.mp q)
  subst e
  have z : Value.type "type" = Value.type "tuple" := congrArg Obj.cls (Option.some.inj (hC.symm.trans htp))
  injection z with z
  exact absurd z (by decide)
 ca := fun X z k => let ⟨o, h1, h2⟩ := z; exc_class X h1 h2 c k
end L2
namespace L2
open PySem PySem.Spec PyProof.Rows
theorem call_isinstX {X : Cx} {e D : Addr} {oe : Obj} (c : ExcD X.K D) : CallR (X.within e oe) (.builtin "isinstance") (fun xs H Q => oe.cls = .ref D ∧ ((∃ C b, xs = [.ref e, .ref C] ∧ PySem.W.kitOne X.K (.ref D) (.ref C) = some b ∧ Q (.bl b) H) ∨ ∃ T b, xs = [.ref e, .ty T] ∧ PySem.W.kitOne X.K (.ref D) (.type T) = some b ∧ Q (.bl b) H)) := by
 intro pins s σ H xs us Q I r h
 obtain ⟨hc, h⟩ := h
 have hp : s.heap.get? e = some oe := (I.pin (e, oe) (List.mem_append_left _ List.mem_cons_self)).1
 rcases h with ⟨C, b, rfl, k, q⟩ | ⟨T, b, rfl, k, q⟩
 ·obtain ⟨u, w', rfl, rx, ry⟩ := vals2 r
  cases rx
  cases ry
  exact PySem.W.kia_one (kitx_exc c) I.kIn ⟨oe, hp, hc⟩ k (fun z => nomatch z) fun tk => ⟨.bl b, H, I.tok _, rfl, q⟩
 ·obtain ⟨u, w', rfl, rx, ry⟩ := vals2 r
  cases rx
  cases (show w' = Value.type T from ry)
  exact PySem.W.kia_one (kitx_exc c) I.kIn ⟨oe, hp, hc⟩ k (fun z => nomatch z) fun tk => ⟨.bl b, H, I.tok _, rfl, q⟩
theorem call_isinstTs {X : Cx} : CallR X (.builtin "isinstance") (fun xs H Q => ∃ x t ty b, ∃ Ts : List String, xs = [x, .ref t] ∧ H t = some (.tup (Ts.map V.ty)) ∧ TyOf X.K H x ty ∧ (∃ T, ty = .type T) ∧ PySem.W.kitAny X.K ty (Ts.map Value.type) = some b ∧ Q (.bl b) H) := by
 intro pins s σ H xs us Q I r h
 obtain ⟨x, t, ty, b, Ts, rfl, ht, hty, ⟨T, rfl⟩, k, q⟩ := h
 obtain ⟨u, w', rfl, rx, ry⟩ := vals2 r
 cases ry
 obtain ⟨its, rv, ⟨⟨c1, d1, t1, l1⟩, ho, hc, n, hd⟩, _⟩ := I.tuple (SqT.of ht)
 simp only at hc hd
 subst hc hd
 have e : its = Ts.map Value.type := by
  have go : ∀ (Ts : List String) (us : List Value), Vals (Ts.map V.ty) us → us = Ts.map Value.type := by
   intro Ts
   induction Ts with
   | nil => intro us h; cases h; rfl
   | cons T Ts ih => intro us h; cases h with | cons a b => rw [show _ = Value.type T from a, ih _ b]; rfl
  exact go Ts its rv
 subst e
 have fin : ∀ tk, EP X pins σ Q (.bool b) { s with toks := tk } := fun tk => ⟨.bl b, H, I.tok _, rfl, q⟩
 cases hty with
 | non => cases (show u = Value.none from rx); exact PySem.W.kia_tup PySem.W.kitx_none I.kIn True.intro ho k (fun z => nomatch z) fin
 | bl y => cases (show u = Value.bool y from rx); exact PySem.W.kia_tup PySem.W.kitx_bool I.kIn True.intro ho k (fun z => nomatch z) fin
 | int i => obtain ⟨t, z⟩ := (show ∃ t, u = Value.int i t from rx); cases z; exact PySem.W.kia_tup PySem.W.kitx_int I.kIn True.intro ho k (fun z => nomatch z) fin
 | str y => obtain ⟨t, z⟩ := (show ∃ t, u = Value.str y t from rx); cases z; exact PySem.W.kia_tup PySem.W.kitx_str I.kIn True.intro ho k (fun z => nomatch z) fin
 | flt y => obtain ⟨t, z⟩ := (show ∃ t, u = Value.float y t from rx); cases z; exact PySem.W.kia_tup PySem.W.kitx_float I.kIn True.intro ho k (fun z => nomatch z) fin
 | @lst a xs ea =>
  cases (show u = Value.ref a from rx)
  obtain ⟨_, _, n, _, h1⟩ := (show ObjOk X.prog X.w H s.heap a (.lst xs) from I.hok a _ ea)
  exact PySem.W.kia_tup PySem.W.kitx_list I.kIn ⟨_, h1, rfl⟩ ho k (fun z => nomatch z) fin
 | @frz a ob xs ea =>
  cases (show u = Value.ref a from rx)
  obtain ⟨_, _, _, n, _, h1⟩ := (show ObjOk X.prog X.w H s.heap a (.frz ob (.lst xs)) from I.hok a _ ea)
  exact PySem.W.kia_tup PySem.W.kitx_list I.kIn ⟨_, h1, rfl⟩ ho k (fun z => nomatch z) fin
 | @tup a xs ea =>
  cases (show u = Value.ref a from rx)
  obtain ⟨_, _, _, p⟩ := (show ObjOk X.prog X.w H s.heap a (.tup xs) from I.hok a _ ea)
  obtain ⟨o, h1, h2, _⟩ := p
  exact PySem.W.kia_tup PySem.W.kitx_tuple I.kIn ⟨o, h1, h2⟩ ho k (fun z => nomatch z) fin
 | @dK a kvs ea =>
  cases (show u = Value.ref a from rx)
  obtain ⟨_, _, vs, _, p⟩ := (show ObjOk X.prog X.w H s.heap a (.dK kvs) from I.hok a _ ea)
  obtain ⟨o, es, ep, h1, h2, _⟩ := p
  exact PySem.W.kia_tup PySem.W.kitx_dict I.kIn ⟨o, h1, h2.1⟩ ho k (fun z => nomatch z) fin
 | @dT a kvs ea =>
  cases (show u = Value.ref a from rx)
  obtain ⟨_, _, xs, _, o, es, ep, h1, h2, _⟩ := (show ObjOk X.prog X.w H s.heap a (.dT kvs) from I.hok a _ ea)
  exact PySem.W.kia_tup PySem.W.kitx_dict I.kIn ⟨o, h1, h2.1⟩ ho k (fun z => nomatch z) fin
theorem PI.or {X : Cx} {tg iter : Expr} {w1 w2 : TI} (h1 : PI X tg iter w1) (h2 : PI X tg iter w2) : PI X tg iter (fun σ H R => w1 σ H R ∨ w2 σ H R) := by
 intro pins s σ H R I h
 rcases h with h | h
 ·exact h1 pins s σ H R I h
 ·exact h2 pins s σ H R I h
end L2
namespace L2
open PySem PySem.Spec PyProof.Rows
noncomputable abbrev C3 := Int × Int × Int
noncomputable def ClP (H : Hp) (bs : List Addr) (cl : List C3) : Prop := Paired (fun b (c : C3) => H b = some (.tup [.int c.1, .int c.2.1, .int c.2.2])) bs cl
theorem ClP.ext {H H' : Hp} {bs : List Addr} {cl : List C3} (h : ClP H bs cl) (e : Ext H H') : ClP H' bs cl := Paired.mapP h fun _ _ z => e.tup _ _ z
theorem ClP.get {H : Hp} : ∀ {bs : List Addr} {cl : List C3} {i : Nat} {b : Addr}, ClP H bs cl → bs[i]? = some b → ∃ c, cl[i]? = some c ∧ H b = some (.tup [.int c.1, .int c.2.1, .int c.2.2])
 | _, _, 0, _, .cons r _, h => by cases h; exact ⟨_, rfl, r⟩
 | _, _, i + 1, _, .cons _ t, h => ClP.get (i := i) t (by simpa using h)
noncomputable def ClT (H : Hp) (a : Addr) (cl : List C3) : Prop := ∃ bs, H a = some (.tup (bs.map V.ref)) ∧ ClP H bs cl
theorem ClT.ext {H H' : Hp} {a : Addr} {cl : List C3} (h : ClT H a cl) (e : Ext H H') : ClT H' a cl := let ⟨bs, h1, h2⟩ := h; ⟨bs, e.tup _ _ h1, h2.ext e⟩
structure CuOk (cs : List Int) : Prop where
 l1 : 1 ≤ cs.length
 l6 : cs.length ≤ 6
 num : ∀ x ∈ cs, 1 ≤ x ∧ x ≤ 100
noncomputable def lt2 (a b : Int × Int) : Bool := HT.lexLt [a.1, a.2] [b.1, b.2]
noncomputable def key2 (c : C3) : Int × Int := (c.1, c.2.1)
structure ClOk (cl : List C3) : Prop where
 l1 : 1 ≤ cl.length
 l12 : cl.length ≤ 12
 num : ∀ c ∈ cl, (0 ≤ c.1 ∧ c.1 ≤ 3) ∧ (0 ≤ c.2.1 ∧ c.2.1 ≤ 5) ∧ 1 ≤ c.2.2 ∧ c.2.2 ≤ 20
 up : (cl.map key2).Pairwise fun a b => lt2 a b = true
noncomputable def Under (cs : List Int) (cl : List C3) : Prop := ∀ c ∈ cl, c.2.1 < cs.length
noncomputable def cuAt (H : Hp) (a : Addr) (cs : List Int) : Prop := H a = some (.tup (cs.map V.int))
noncomputable def Wk (J : It) (xs : List V) (S : Hp → Prop) : Prop := ∀ {g : TG} {tb : TS} {D : Ends} {σ : St} {H : Hp} (Pv : Nat → St → Hp → Prop), Pv 0 σ H → (∀ i σ H, i ≤ xs.length → Pv i σ H → S H) →
 (∀ i x σ H, xs[i]? = some x → Pv i σ H → g x σ H fun σ2 H2 => tb { D with nx := Pv (i + 1), ct := Pv (i + 1), bk := D.nx } σ2 H2) → (∀ σ H, Pv xs.length σ H → D.nx σ H) → tForJ J g tb D σ H
theorem wk_tup {K : PySem.W.Frag} {a : Addr} {xs : List V} : Wk (Itt K a) xs fun H => SqT K H a xs := fun Pv h0 hl hs hd => for_tup Pv h0 hl hs hd
theorem wk_list {K : PySem.W.Frag} {a : Addr} {xs : List V} : Wk (Itl K a) xs fun H => SqL K H a xs := fun Pv h0 hl hs hd => for_list Pv h0 hl hs hd
theorem comp_cl {K : PySem.W.Frag} {J : It} {S : Hp → Prop} {l : Addr} {bs : List Addr} {cl : List C3} {te : TE} {H0 : Hp} {rest : St} {Q : St → Hp → Prop} (W : Wk J (bs.map V.ref) S) (hS : ∀ H', Same H0 H' → S H') (hC : ClP H0 bs cl) (hl : H0 l = none) (hz : bs.length ≤ 1000) (f : C3 → V)
  (turn : ∀ c H' Q', c ∈ cl → Same H0 H' → (∀ H2, Same H' H2 → Q' (f c) H2) → te (some (.int c.1) :: some (.int c.2.1) :: some (.int c.2.2) :: rest) H' Q') (hQ : ∀ σ H', Same H0 H' → H' l = some (.lst (cl.map f)) → Q σ H') :
  tForJ J (gTup K 3 (gCons (gName 0) (gCons (gName 1) (gCons (gName 2) gNil)))) (tBodyC tAll (tEmit l te)) (eC Q) (none :: none :: none :: rest) (upd H0 l (.lst [])) := by
 have hlen : bs.length = cl.length := Paired.length hC
 refine W (fun i σ H' => (∃ x y z, σ = x :: y :: z :: rest) ∧ Same H0 H' ∧ H' l = some (.lst ((cl.take i).map f))) ⟨⟨_, _, _, rfl⟩, same_upd hl, by rw [upd_same]; rfl⟩ (fun i σ H' _ h => hS _ h.2.1) ?_ ?_
 ·rintro i x σ H' hx ⟨⟨x0, y0, z0, rfl⟩, hs, hl'⟩
  rw [List.getElem?_map] at hx
  cases hb : bs[i]? with
  | none => rw [hb] at hx; cases hx
  | some b =>
   rw [hb] at hx; cases hx
   obtain ⟨c, hc, he⟩ := hC.get hb
   refine ⟨b, _, rfl, SqT.of (hs _ _ he), rfl, _, _, rfl, _, _, rfl, _, _, rfl, rfl, ?_⟩
   refine body_all ?_
   refine turn c H' _ (List.mem_of_getElem? hc) hs fun H2 h2 => ?_
   refine ⟨_, h2 _ _ hl', small1000 (by rw [List.length_map, List.length_take]; omega), ⟨_, _, _, rfl⟩, fun b u e => ?_, ?_⟩
   ·rw [upd_ne (ne_of_none e hl)]; exact h2 _ _ (hs _ _ e)
   ·rw [upd_same, List.take_succ, hc, List.map_append]; rfl
 ·rintro σ H' ⟨_, hs, hl'⟩
  rw [List.length_map, hlen, List.take_of_length_le (Nat.le_refl _)] at hl'
  exact hQ σ H' hs hl'
theorem comp_key {K : PySem.W.Frag} {J : It} {S : Hp → Prop} {l : Addr} {bs : List Addr} {cl : List C3} {H0 : Hp} {Q : St → Hp → Prop} (W : Wk J (bs.map V.ref) S) (hS : ∀ H', Same H0 H' → S H') (hC : ClP H0 bs cl) (hl : H0 l = none) (hz : bs.length ≤ 1000)
  (hQ : ∀ σ H' ps, Same H0 H' → H' l = some (.lst (ps.map V.ref)) → PlAt H' ps (cl.map key2) → Q σ H') :
  tForJ J (gTup K 3 (gCons (gName 0) (gCons (gName 1) (gCons (gName 2) gNil)))) (tBodyC tAll (tEmit l (tTup (tCons (tVar 0) (tCons (tVar 1) tNil))))) (eC Q) [none, none, none] (upd H0 l (.lst [])) := by
 have hlen : bs.length = cl.length := Paired.length hC
 refine W (fun i σ H' => σ.length = 3 ∧ Same H0 H' ∧ ∃ ps : List Addr, H' l = some (.lst (ps.map V.ref)) ∧ PlAt H' ps ((cl.take i).map key2)) ⟨rfl, same_upd hl, [], by rw [upd_same]; rfl, .nil⟩ (fun i σ H' _ h => hS _ h.2.1) ?_ ?_
 ·rintro i x σ H' hx ⟨hσ, hs, ps, hl', hP⟩
  match σ, hσ with
  | [x0, y0, z0], _ =>
  rw [List.getElem?_map] at hx
  cases hb : bs[i]? with
  | none => rw [hb] at hx; cases hx
  | some b =>
   rw [hb] at hx; cases hx
   obtain ⟨c, hc, he⟩ := hC.get hb
   have hpl : ps.length ≤ i := by have := Paired.length hP; rw [List.length_map, List.length_take] at this; omega
   have hil : i < bs.length := (List.getElem?_eq_some_iff.mp hb).1
   refine ⟨b, _, rfl, SqT.of (hs _ _ he), rfl, _, _, rfl, _, _, rfl, _, _, rfl, rfl, ?_⟩
   refine body_all ?_
   refine ⟨_, rfl, _, rfl, by show 2 ≤ sizeLine; decide, fun q hq => ?_⟩
   have s2 := same_upd (o := .tup [.int c.1, .int c.2.1]) hq
   have hlq : q ≠ l := fun z => by rw [z, hl'] at hq; cases hq
   refine ⟨_, s2 _ _ hl', small1000 (by rw [List.length_map]; omega), rfl, fun b u e => ?_, ps ++ [q], ?_, ?_⟩
   ·rw [upd_ne (ne_of_none e hl)]; exact s2 _ _ (hs _ _ e)
   ·rw [upd_same, List.map_append]; rfl
   ·rw [List.take_succ, hc, List.map_append]
    refine PlAt.snoc (Paired.mapP hP fun p c' e => ?_) (by rw [upd_ne hlq, upd_same]; rfl)
    have e' := s2 _ _ e
    rw [upd_ne (fun z => by rw [z, s2 _ _ hl'] at e'; cases e')]; exact e'
 ·rintro σ H' ⟨_, hs, ps, hl', hP⟩
  rw [List.length_map, hlen, List.take_of_length_le (Nat.le_refl _)] at hP
  exact hQ σ H' ps hs hl' hP
end L2
namespace L2
open PySem PySem.Spec PyProof.Rows
noncomputable def E3 (R : V → V → Bool → Prop) : List V → List V → List Bool → Prop
 | [], [], [] => True
 | x :: xs, y :: ys, k :: ks => R x y k ∧ E3 R xs ys ks
 | _, _, _ => False
noncomputable def EqF (a b : V) (k : Bool) : Prop := (∃ i j, a = .int i ∧ b = .int j ∧ k = decide (i = j)) ∨ ∃ x y, a = .str x ∧ b = .str y ∧ k = decide (x = y)
noncomputable def EqD (H : Hp) : Nat → V → V → Bool → Prop
 | 0, a, b, k => EqF a b k
 | n + 1, a, b, k => EqF a b k ∨ ∃ p q xs ys ks, a = .ref p ∧ b = .ref q ∧ ((H p = some (.tup xs) ∧ H q = some (.tup ys)) ∨ (H p = some (.lst xs) ∧ H q = some (.lst ys))) ∧ E3 (EqD H n) xs ys ks ∧ k = ks.all id
theorem E3.len {R : V → V → Bool → Prop} : ∀ {xs ys : List V} {ks : List Bool}, E3 R xs ys ks → xs.length = ys.length ∧ xs.length = ks.length
 | [], [], [], _ => ⟨rfl, rfl⟩
 | x :: xs, y :: ys, k :: ks, h => by
  have := E3.len h.2
  simp only [List.length_cons]; omega
 | [], [], _ :: _, h => h.elim
 | [], _ :: _, _, h => h.elim
 | _ :: _, [], _, h => h.elim
 | _ :: _, _ :: _, [], h => h.elim
theorem E3.get {R : V → V → Bool → Prop} : ∀ {xs ys : List V} {ks : List Bool} {i : Nat} {x y : V}, E3 R xs ys ks → xs[i]? = some x → ys[i]? = some y → ∃ k, ks[i]? = some k ∧ R x y k
 | x :: xs, y :: ys, k :: ks, 0, _, _, h, h1, h2 => by cases h1; cases h2; exact ⟨k, rfl, h.1⟩
 | x :: xs, y :: ys, k :: ks, i + 1, _, _, h, h1, h2 => E3.get (i := i) h.2 (by simpa using h1) (by simpa using h2)
 | [], _, _, _, _, _, _, h1, _ => by simp at h1
 | _ :: _, [], _, _, _, _, h, _, _ => h.elim
 | _ :: _, _ :: _, [], _, _, _, h, _, _ => h.elim
theorem EqF.refl_true {a : V} {k : Bool} (h : EqF a a k) : k = true := by
 rcases h with ⟨i, j, h1, h2, h3⟩ | ⟨x, y, h1, h2, h3⟩
 ·rw [h1] at h2; rw [h3, V.int.inj h2]; simp
 ·rw [h1] at h2; rw [h3, V.str.inj h2]; simp
theorem EqD.refl_true {H : Hp} : ∀ {n : Nat} {a : V} {k : Bool}, EqD H n a a k → k = true
 | 0, a, k, h => EqF.refl_true h
 | n + 1, a, k, h => by
  rcases h with h | ⟨p, q, xs, ys, ks, h1, h2, h3, h4, h5⟩
  ·exact EqF.refl_true h
  ·rw [h1] at h2
   cases h2
   have e : xs = ys := by
    rcases h3 with ⟨u, v⟩ | ⟨u, v⟩
    ·rw [u] at v; cases v; rfl
    ·rw [u] at v; cases v; rfl
   subst e
   rw [h5, List.all_eq_true]
   have go : ∀ {xs : List V} {ks : List Bool}, E3 (EqD H n) xs xs ks → ∀ k ∈ ks, id k = true := fun {xs ks} => by
    induction xs generalizing ks with
    | nil => intro h k hk; cases ks with | nil => cases hk | cons _ _ => exact h.elim
    | cons x xs ih =>
     intro h k hk
     cases ks with
     | nil => cases hk
     | cons k0 ks =>
      rcases List.mem_cons.mp hk with z | z
      ·rw [z]; exact EqD.refl_true h.1
      ·exact ih h.2 k z
   exact go h4
theorem EqD.int {H : Hp} (n : Nat) (i j : Int) : EqD H n (.int i) (.int j) (decide (i = j)) := by
 cases n with
 | zero => exact .inl ⟨i, j, rfl, rfl, rfl⟩
 | succ n => exact .inl (.inl ⟨i, j, rfl, rfl, rfl⟩)
section
variable {X : Cx} {pins : List (Addr × Obj)} {σ : St} {H : Hp} {s : Shared}
theorem all_range (ks : List Bool) : (List.range ks.length).all (fun j => ks.getD j true) = ks.all id := by
 rw [Bool.eq_iff_iff, List.all_eq_true, List.all_eq_true]
 constructor
 ·intro h k hk
  obtain ⟨j, hj, e⟩ := List.getElem_of_mem hk
  have := h j (by simpa using hj)
  rw [show ks.getD j true = ks[j] by simp [hj], e] at this
  exact this
 ·intro h j hj
  have hj' : j < ks.length := by simpa using hj
  rw [show ks.getD j true = ks[j] by simp [hj']]
  exact h _ (List.getElem_mem _)
theorem items_eq {A : Around} {n : Nat} {xs ys : List V} {us ws : List Value} {ks : List Bool} (ih : ∀ {a b : V} {k : Bool} {u v : Value}, EqD H n a b k → RelV a u → RelV b v → SeqAt.EqAt A s u v k) (h4 : E3 (EqD H n) xs ys ks) (r1 : Vals xs us) (r2 : Vals ys ws) :
  ∀ j (h1 : j < us.toArray.size) (h2 : j < ws.toArray.size), SeqAt.EqAt A s us.toArray[j] ws.toArray[j] (ks.getD j true) := fun j h1 h2 => by
 have hl := h4.len
 have l1 := r1.length
 have l2 := r2.length
 rw [List.size_toArray] at h1 h2
 have j1 : j < xs.length := by omega
 have j2 : j < ys.length := by omega
 obtain ⟨u, hu, ru⟩ := r1.get (List.getElem?_eq_getElem j1)
 obtain ⟨v, hv, rv⟩ := r2.get (List.getElem?_eq_getElem j2)
 obtain ⟨k, hk, e⟩ := h4.get (List.getElem?_eq_getElem j1) (List.getElem?_eq_getElem j2)
 have eu : us.toArray[j] = u := by
  have := (List.getElem?_eq_some_iff.mp hu).2
  simpa using this
 have ev : ws.toArray[j] = v := by
  have := (List.getElem?_eq_some_iff.mp hv).2
  simpa using this
 rw [eu, ev, show ks.getD j true = k by rw [List.getD_eq_getElem?_getD, hk]; rfl]
 exact ih e ru rv
theorem rc_seq {A : Around} {n : Nat} {p q : Addr} {xs ys : List V} {ks : List Bool} (I : Inv X pins σ H s) (hu : A.units < cLine) (ih : ∀ {a b : V} {k : Bool} {u v : Value}, EqD H n a b k → RelV a u → RelV b v → SeqAt.EqAt A.in1 s u v k)
  (h3 : (H p = some (.tup xs) ∧ H q = some (.tup ys)) ∨ (H p = some (.lst xs) ∧ H q = some (.lst ys))) (h4 : E3 (EqD H n) xs ys ks) : SeqAt.RcAt A s (.ref p) (.ref q) (ks.all id) ∧ SeqAt.RcNeAt A s (.ref p) (.ref q) (!ks.all id) := by
 have hl := h4.len
 rcases h3 with ⟨hp, hq⟩ | ⟨hp, hq⟩
 ·obtain ⟨us, r1, p1, _⟩ := I.tuple (SqT.of hp)
  obtain ⟨ws, r2, p2, _⟩ := I.tuple (SqT.of hq)
  have l1 := r1.length
  have l2 := r2.length
  have e : ((List.range (min us.toArray.size ws.toArray.size)).all (fun j => ks.getD j true) && us.toArray.size == ws.toArray.size) = ks.all id := by
   rw [List.size_toArray, List.size_toArray, show min us.length ws.length = ks.length by omega, all_range, show us.length = ws.length by omega]
   simp
  have k1 := SeqAt.RcAt.tuples p1 p2 hu (items_eq ih h4 r1 r2)
  have k2 := SeqAt.RcNeAt.tuples p1 p2 hu (items_eq ih h4 r1 r2)
  rw [e] at k1 k2
  exact ⟨k1, k2⟩
 ·obtain ⟨us, r1, p1, _⟩ := I.list (SqL.of hp)
  obtain ⟨ws, r2, p2, _⟩ := I.list (SqL.of hq)
  have l1 := r1.length
  have l2 := r2.length
  have e : (List.range us.toArray.size).all (fun j => ks.getD j true) = ks.all id := by rw [List.size_toArray, show us.length = ks.length by omega, all_range]
  have hz : us.toArray.size = ws.toArray.size := by rw [List.size_toArray, List.size_toArray]; omega
  have k1 := SeqAt.RcAt.lists p1.isList p2.isList hz hu (items_eq ih h4 r1 r2)
  have k2 := SeqAt.RcNeAt.lists p1.isList p2.isList hz hu (items_eq ih h4 r1 r2)
  rw [e] at k1 k2
  exact ⟨k1, k2⟩
theorem eqD_at (I : Inv X pins σ H s) : ∀ {n : Nat} {A : Around} {a b : V} {k : Bool} {u v : Value}, A.units + n < cLine → EqD H n a b k → RelV a u → RelV b v → SeqAt.EqAt A s u v k := by
 have flat : ∀ {A : Around} {a b : V} {k : Bool} {u v : Value}, EqF a b k → RelV a u → RelV b v → SeqAt.EqAt A s u v k := fun {A a b k u v} h ra rb => by
  rcases h with ⟨i, j, rfl, rfl, rfl⟩ | ⟨x, y, rfl, rfl, rfl⟩
  ·obtain ⟨t, rfl⟩ := ra
   obtain ⟨t', rfl⟩ := rb
   have := SeqAt.EqAt.int_int (A := A) (s := s) i t j t'
   rwa [show (i == j) = decide (i = j) by rw [Bool.eq_iff_iff]; simp] at this
  ·obtain ⟨t, rfl⟩ := ra
   obtain ⟨t', rfl⟩ := rb
   have := SeqAt.EqAt.str_str (A := A) (s := s) x t y t'
   rwa [show (x == y) = decide (x = y) by rw [Bool.eq_iff_iff]; simp] at this
 intro n
 induction n with
 | zero => intro A a b k u v _ h ra rb; exact flat h ra rb
 | succ n ih =>
  intro A a b k u v hu h ra rb
  rcases h with h | ⟨p, q, xs, ys, ks, rfl, rfl, h3, h4, rfl⟩
  ·exact flat h ra rb
  ·cases ra
   cases rb
   by_cases hpq : p = q
   ·subst hpq
    have : (ks.all id) = true := EqD.refl_true (n := n + 1) (H := H) (a := .ref p) (.inr ⟨p, p, xs, ys, ks, rfl, rfl, h3, h4, rfl⟩)
    rw [this]
    exact SeqAt.EqAt.same _
   ·exact SeqAt.EqAt.of_refs hpq (rc_seq I (by omega) (fun e r1 r2 => ih (show A.in1.units + n < cLine by show A.units + 1 + n < cLine; omega) e r1 r2) h3 h4).1
end
section
variable {X : Cx}
noncomputable def rSeqD (n : Nat) (g : Bool → Bool) : R2 := fun x y H Q => ∃ p q xs ys ks, x = .ref p ∧ y = .ref q ∧ ((H p = some (.tup xs) ∧ H q = some (.tup ys)) ∨ (H p = some (.lst xs) ∧ H q = some (.lst ys))) ∧ E3 (EqD H n) xs ys ks ∧ Q (.bl (g (ks.all id))) H
theorem op_eqD (n : Nat) (hu : X.A.units + n + 1 < cLine) : OpR X (compareOp .Eq) (rSeqD n id) := by
 intro pins s σ H x y v u Q I rx ry h
 obtain ⟨p, q, xs, ys, ks, rfl, rfl, h3, h4, hq⟩ := h
 cases rx
 cases ry
 exact (rc_seq I (by omega) (fun e r1 r2 => eqD_at I (show X.A.in1.units + n < cLine by show X.A.units + 1 + n < cLine; omega) e r1 r2) h3 h4).1 X.prog X.w X.xe _ ⟨.bl _, H, I, rfl, hq⟩
theorem op_neD (n : Nat) (hu : X.A.units + n + 1 < cLine) : OpR X (compareOp .NotEq) (rSeqD n not) := by
 intro pins s σ H x y v u Q I rx ry h
 obtain ⟨p, q, xs, ys, ks, rfl, rfl, h3, h4, hq⟩ := h
 cases rx
 cases ry
 exact (rc_seq I (by omega) (fun e r1 r2 => eqD_at I (show X.A.in1.units + n < cLine by show X.A.units + 1 + n < cLine; omega) e r1 r2) h3 h4).2 X.prog X.w X.xe _ ⟨.bl _, H, I, rfl, hq⟩
noncomputable def rInD (n : Nat) (g : Bool → Bool) : R2 := fun x y H Q => ∃ q xs ks, y = .ref q ∧ (H q = some (.tup xs) ∨ H q = some (.lst xs)) ∧ E3 (EqD H n) xs (xs.map fun _ => x) ks ∧ Q (.bl (g (ks.any id))) H
theorem relV_inj : ∀ {a b : V} {u : Value}, RelV a u → RelV b u → a = b := fun {a b u} ha hb => by
 cases a <;> cases b <;> simp only [RelV] at ha hb <;> first
  | rfl
  | (subst ha; cases hb; rfl)
  | (subst ha; cases hb; done)
  | (obtain ⟨t, rfl⟩ := ha; obtain ⟨t', e⟩ := hb; cases e; rfl)
  | (obtain ⟨t, rfl⟩ := ha; obtain ⟨t', e⟩ := hb; cases e; done)
  | (obtain ⟨t, rfl⟩ := ha; cases hb; done)
  | (obtain ⟨t, rfl⟩ := hb; cases ha; done)
theorem EqF.func {a b : V} {k k' : Bool} (h : EqF a b k) (h' : EqF a b k') : k = k' := by
 rcases h with ⟨i, j, rfl, rfl, rfl⟩ | ⟨x, y, rfl, rfl, rfl⟩
 ·rcases h' with ⟨i', j', h1, h2, rfl⟩ | ⟨x, y, h1, h2, rfl⟩
  ·cases h1; cases h2; rfl
  ·cases h1
 ·rcases h' with ⟨i', j', h1, h2, rfl⟩ | ⟨x', y', h1, h2, rfl⟩
  ·cases h1
  ·cases h1; cases h2; rfl
theorem EqF.noref {p : Addr} {b : V} {k : Bool} (h : EqF (.ref p) b k) : False := by
 rcases h with ⟨i, j, h1, _⟩ | ⟨x, y, h1, _⟩ <;> cases h1
theorem EqD.func {H : Hp} : ∀ {n : Nat} {a b : V} {k k' : Bool}, EqD H n a b k → EqD H n a b k' → k = k'
 | 0, a, b, k, k', h, h' => EqF.func h h'
 | n + 1, a, b, k, k', h, h' => by
  rcases h with h | ⟨p, q, xs, ys, ks, rfl, rfl, h3, h4, rfl⟩
  ·rcases h' with h' | ⟨p, q, xs, ys, ks, rfl, rfl, h3, h4, rfl⟩
   ·exact EqF.func h h'
   ·exact h.noref.elim
  ·rcases h' with h' | ⟨p', q', xs', ys', ks', e1, e2, h3', h4', rfl⟩
   ·exact h'.noref.elim
   ·cases e1; cases e2
    have ex : xs = xs' ∧ ys = ys' := by
     rcases h3 with ⟨u, v⟩ | ⟨u, v⟩ <;> rcases h3' with ⟨u', v'⟩ | ⟨u', v'⟩ <;> rw [u] at u' <;> rw [v] at v' <;> cases u' <;> cases v' <;> exact ⟨rfl, rfl⟩
    obtain ⟨rfl, rfl⟩ := ex
    have go : ∀ {xs ys : List V} {ks ks' : List Bool}, E3 (EqD H n) xs ys ks → E3 (EqD H n) xs ys ks' → ks = ks' := fun {xs} => by
     induction xs with
     | nil =>
      intro ys ks ks' g g'
      cases ys with
      | nil =>
       cases ks with
       | nil => cases ks' with | nil => rfl | cons _ _ => exact g'.elim
       | cons _ _ => exact g.elim
      | cons _ _ => exact g.elim
     | cons x xs ih =>
      intro ys ks ks' g g'
      cases ys with
      | nil => exact g.elim
      | cons y ys =>
       cases ks with
       | nil => exact g.elim
       | cons k ks =>
        cases ks' with
        | nil => exact g'.elim
        | cons k' ks' => rw [EqD.func g.1 g'.1, ih g.2 g'.2]
    rw [go h4 h4']
open Classical in
theorem any_in {H : Hp} {n : Nat} {x : V} {e : Value → Bool} (he : ∀ a u k, RelV a u → EqD H n a x k → e u = k) : ∀ {xs : List V} {us : List Value} {ks : List Bool}, Vals xs us → E3 (EqD H n) xs (xs.map fun _ => x) ks → us.any e = ks.any id
 | [], _, [], .nil, _ => rfl
 | [], _, _ :: _, .nil, h => h.elim
 | y :: xs, _, k :: ks, .cons r t, h => by
  rw [List.any_cons, List.any_cons, he _ _ _ r h.1, any_in he t h.2]; rfl
 | _ :: _, _, [], .cons _ _, h => h.elim
open Classical in
theorem in_core {A : Around} {n : Nat} {x : V} {v : Value} {xs : List V} {us : List Value} {ks : List Bool} {pins : List (Addr × Obj)} {σ : St} {H : Hp} {s : Shared} (I : Inv X pins σ H s) (hu : A.units + n < cLine) (rx : RelV x v) (r : Vals xs us) (h : E3 (EqD H n) xs (xs.map fun _ => x) ks) :
  ∃ e : Value → Bool, (∀ y ∈ us, SeqAt.EqAt A s y v (e y)) ∧ us.any e = ks.any id := by
 refine ⟨fun y => decide (∃ a, RelV a y ∧ EqD H n a x true), fun y hy => ?_, any_in (fun a u k ra hk => ?_) r h⟩
 ·obtain ⟨j, hj, e⟩ := List.getElem_of_mem hy
  have hl := r.length
  have hjx : j < xs.length := by omega
  obtain ⟨u, hu', ru⟩ := r.get (List.getElem?_eq_getElem hjx)
  have eu : u = y := by
   rw [List.getElem?_eq_getElem hj, e] at hu'
   exact (Option.some.inj hu').symm
  subst eu
  obtain ⟨k, hk, ek⟩ := h.get (List.getElem?_eq_getElem hjx) (y := x) (by rw [List.getElem?_map, List.getElem?_eq_getElem hjx]; rfl)
  have : decide (∃ a, RelV a u ∧ EqD H n a x true) = k := by
   cases k with
   | true => exact decide_eq_true ⟨_, ru, ek⟩
   | false =>
    refine decide_eq_false ?_
    rintro ⟨a, ra, ea⟩
    have := relV_inj ra ru
    subst this
    cases EqD.func ek ea
  show SeqAt.EqAt A s u v (decide (∃ a, RelV a u ∧ EqD H n a x true))
  rw [this]
  exact eqD_at I hu ek ru rx
 ·cases k with
  | true => exact decide_eq_true ⟨a, ra, hk⟩
  | false =>
   refine decide_eq_false ?_
   rintro ⟨b, rb, eb⟩
   have := relV_inj rb ra
   subst this
   cases EqD.func hk eb
theorem op_inD (n : Nat) (hu : X.A.units + n + 1 < cLine) : OpR X (compareOp .In) (rInD n id) := by
 intro pins s σ H x y v u Q I rx ry h
 obtain ⟨q, xs, ks, rfl, hq, h4, hQ⟩ := h
 cases ry
 have hu' : X.A.in1.units + n < cLine := by show X.A.units + 1 + n < cLine; omega
 rcases hq with hq | hq
 ·obtain ⟨us, r, p, _⟩ := I.tuple (SqT.of hq)
  obtain ⟨e, e1, e2⟩ := in_core I hu' rx r h4
  refine SeqAt.in_tupleAt e p (fun y hy => e1 y (by simpa using hy)) ⟨.bl _, H, I, rfl, ?_⟩
  rw [show us.toArray.any e = us.any e by simp, e2]; exact hQ
 ·obtain ⟨us, r, p, _⟩ := I.list (SqL.of hq)
  obtain ⟨e, e1, e2⟩ := in_core I hu' rx r h4
  refine SeqAt.in_listAt e p.isList (fun y hy => e1 y (by simpa using hy)) ⟨.bl _, H, I, rfl, ?_⟩
  rw [show us.toArray.any e = us.any e by simp, e2]; exact hQ
theorem op_notInD (n : Nat) (hu : X.A.units + n + 1 < cLine) : OpR X (compareOp .NotIn) (rInD n not) := by
 intro pins s σ H x y v u Q I rx ry h
 obtain ⟨q, xs, ks, rfl, hq, h4, hQ⟩ := h
 cases ry
 have hu' : X.A.in1.units + n < cLine := by show X.A.units + 1 + n < cLine; omega
 rcases hq with hq | hq
 ·obtain ⟨us, r, p, _⟩ := I.tuple (SqT.of hq)
  obtain ⟨e, e1, e2⟩ := in_core I hu' rx r h4
  refine SeqAt.notIn_tupleAt e p (fun y hy => e1 y (by simpa using hy)) ⟨.bl _, H, I, rfl, ?_⟩
  rw [show us.toArray.any e = us.any e by simp, e2]; exact hQ
 ·obtain ⟨us, r, p, _⟩ := I.list (SqL.of hq)
  obtain ⟨e, e1, e2⟩ := in_core I hu' rx r h4
  refine SeqAt.notIn_listAt e p.isList (fun y hy => e1 y (by simpa using hy)) ⟨.bl _, H, I, rfl, ?_⟩
  rw [show us.toArray.any e = us.any e by simp, e2]; exact hQ
end
end L2
namespace L2
open PySem PySem.Spec PyProof.Rows
noncomputable def DictAt (e : Addr) (d : Option Addr) (h : Heap) : Prop := ∃ o, h.get? e = some o ∧ o.dict = d
noncomputable def KD (e : Addr) {α : Type} (t : Sem α) : Prop := ∀ (M : Model) (Γ : PySem.Ctx) (Q : α → Pos → Shared → Prop) (E : Value → Pos → Shared → Prop) (p : Pos) (s : Shared) (d : Option Addr), DictAt e d s.heap → Sem.wp M Γ t Q E p s →
 Sem.wp M Γ t (fun a p' s' => Q a p' s' ∧ DictAt e d s'.heap) E p s
section
variable {e : Addr} {α β : Type}
theorem KD.pure {a : α} : KD e (Pure.pure a : Sem α) := fun M Γ Q E p s d x h => by
 rw [Sem.wp_pure'] at h ⊢; exact ⟨h, x⟩
theorem KD.uns {w : String} : KD e (PySem.unsupported w : Sem α) := fun M Γ Q E p s d x h => h.elim
theorem KD.bind {m : Sem α} {f : α → Sem β} (a : KD e m) (b : ∀ x, KD e (f x)) : KD e (m >>= f) := fun M Γ Q E p s d x h => by
 rw [Sem.wp_bind'] at h ⊢
 exact Sem.wp_mono M Γ m (fun v p' s' z => b v M Γ Q E p' s' d z.2 z.1) (fun _ _ _ z => z) p s (a M Γ _ E p s d x h)
theorem KD.ite {c : Prop} [Decidable c] {a b : Sem α} (x : KD e a) (y : KD e b) : KD e (if c then a else b) := by
 split
 ·exact x
 ·exact y
theorem KD.load {a : Addr} : KD e (PySem.load a) := fun M Γ Q E p s d x h => by
 obtain ⟨o, ho, z⟩ := h
 exact ⟨o, ho, z, x⟩
theorem KD.stack : KD e PySem.stack := fun M Γ Q E p s d x h => ⟨h, x⟩
theorem KD.alloc {o : Obj} : KD e (PySem.alloc o) := fun M Γ Q E p s d x h => by
 obtain ⟨u, hu, hd⟩ := x
 exact ⟨h, u, Heap.get?_push_of_some _ hu, hd⟩
theorem KD.update {a : Addr} {f : Obj → Obj} (hd : ∀ o, (f o).dict = o.dict) (hf : ∀ o, o.isFreed = false → (f o).isFreed = false) : KD e (PySem.update a f) := fun M Γ Q E p s d x h => by
 obtain ⟨q, z⟩ := h
 refine ⟨q, z, ?_⟩
 obtain ⟨u, hu, hd'⟩ := x
 by_cases h2 : a = e
 ·subst h2
  exact ⟨_, Heap.get?_update_self f hu (hf _ (Heap.get?_some_iff.mp hu).2), (hd u).trans hd'⟩
 ·exact ⟨u, (Heap.get?_update_other _ _ h2).trans hu, hd'⟩
theorem KD.fieldsOf {v : Value} : KD e (PySem.fieldsOf v) := by
 unfold PySem.fieldsOf
 split
 ·refine KD.bind KD.load fun o => ?_
  split
  ·exact KD.pure
  ·exact KD.uns
 ·exact KD.uns
theorem KD.field {v : Value} {i : Nat} : KD e (PySem.field v i) := by
 unfold PySem.field
 refine KD.bind KD.fieldsOf fun o => ?_
 split
 ·exact KD.pure
 ·exact KD.uns
theorem KD.setField {v x : Value} {i : Nat} : KD e (PySem.setField v i x) := by
 unfold PySem.setField
 split
 ·unfold updateField
  refine KD.bind KD.load fun o => ?_
  split
  ·split
   ·refine KD.update (fun o => ?_) fun o h => ?_
    ·unfold Obj.mapFields; split <;> rfl
    ·unfold Obj.mapFields
     obtain ⟨c, dd, dt, sl⟩ := o
     cases dt <;> first | rfl | exact h
   ·exact KD.uns
  ·exact KD.uns
 ·exact KD.uns
theorem KD.newObjAsIs {c : String} {dt : Data} {dd : Option Addr} : KD e (PySem.newObjAsIs (.type c) dt dd) := by
 unfold PySem.newObjAsIs
 exact KD.bind KD.alloc fun _ => KD.pure
theorem KD.newEntry {a b c d f : Value} {l : List Value} : KD e (EntryCells.newEntry a b c d f l) := by
 unfold EntryCells.newEntry newFields newObj
 dsimp only
 exact KD.ite (KD.bind KD.uns fun _ => KD.newObjAsIs) KD.newObjAsIs
theorem KD.readyFrames : ∀ l : List Env, KD e (PySem.readyFrames l)
 | [] => KD.pure
 | env :: outer => by
  unfold PySem.readyFrames
  split
  ·refine KD.bind KD.load fun o => ?_
   refine KD.ite KD.pure ?_
   refine KD.bind ?_ fun b => KD.bind ?_ fun c => KD.bind ?_ fun _ => KD.readyFrames outer
   ·unfold behindIsImport
    refine KD.ite KD.pure (KD.ite KD.pure (KD.bind KD.field fun _ => KD.pure))
   ·unfold keptBack
    split
    ·refine KD.ite KD.pure ?_
     unfold underTheClaimsCaller
     exact KD.bind (KD.bind KD.stack fun _ => KD.pure) fun _ => KD.pure
    ·exact KD.pure
   ·exact KD.update (fun o => rfl) fun o h => by obtain ⟨c, dd, dt, sl⟩ := o; cases dt <;> first | rfl | exact h
  ·exact KD.uns
theorem KD.frameOf {env : Env} : KD e (PySem.frameOf env) := by
 unfold PySem.frameOf frameEnvs
 refine KD.bind (KD.bind KD.stack fun _ => KD.pure) fun l => KD.bind ?_ fun r => ?_
 ·unfold frameObject
  split
  ·exact KD.pure
  ·exact KD.bind (KD.readyFrames _) fun _ => KD.pure
 ·split
  ·exact KD.pure
  ·exact KD.uns
theorem KD.entryPlaceOf {f : Addr} {b : Bool} : KD e (PySem.entryPlaceOf f b) := by
 unfold PySem.entryPlaceOf
 refine KD.bind KD.stack fun l => ?_
 split <;> exact KD.pure
theorem KD.noteFrame {v : Value} {env : Env} : KD e (PySem.noteFrame v env) := by
 unfold PySem.noteFrame
 split
 ·refine KD.bind KD.field fun hd => ?_
  have last : ∀ (f : Addr), KD e (do
    let a ← PySem.frameOf env
    let pl ← PySem.entryPlaceOf f (hd != .none)
    let b ← EntryCells.newEntry hd a .none (rawInt f) .none pl
    PySem.setField v 1 b) := fun f => KD.bind KD.frameOf fun _ => KD.bind KD.entryPlaceOf fun _ => KD.bind KD.newEntry fun _ => KD.setField
  refine KD.ite ?_ (last _)
  refine KD.bind KD.field fun _ => KD.ite KD.pure (KD.bind KD.setField fun _ => last _)
 ·exact KD.uns
theorem KD.setFlight {v : Value} {f : Option Addr} : KD e (PySem.setFlight v f) := by
 unfold PySem.setFlight
 refine KD.bind KD.field fun hd => ?_
 exact KD.ite KD.setField KD.pure
theorem KD.leaving {v : Value} {env : Env} : KD e (PySem.leaving env v) := by
 unfold PySem.leaving
 exact KD.bind KD.noteFrame fun _ => KD.setFlight
theorem KD.any {M : Model} {A : Around} {t : Sem α} {Q : α → Shared → Prop} {E : Value → Shared → Prop} {s : Shared} {d : Option Addr} (k : KD e t) (x : DictAt e d s.heap) (h : wpAny M A t Q E s) :
  wpAny M A t (fun a s' => Q a s' ∧ DictAt e d s'.heap) E s := fun Γ p hΓ => k M Γ _ _ p s d x (h Γ p hΓ)
end
end L2
namespace L2
open PySem PySem.Spec PyProof.Rows
noncomputable def excInI (K : PySem.W.Frag) (C : Addr) (bmB : List Value) (newId : String) : Bool := match K.lookup C with
 | some ⟨.type "type", _, .cls kd, sl⟩ => (match kd.mro, sl.toList with
  | .ref C' :: tl0, [_, _, _, _, some (.builtin n), _] => C' == C && n == newId && !kd.hasDel && PySem.W.tailIn K bmB tl0 && PySem.W.nsOkIn K kd.ns
  | _, _ => false)
 | _ => false
structure ExcI (K : PySem.W.Frag) (C f : Addr) : Prop where
 ex : excInI K C bmV "ValueError.__new__" = true
 init : PySem.W.findIn K (.ref C) "__init__" = some (some (.ref f))
 fn : PySem.W.isFn K (.ref f) = true
 kp : PySem.W.keepIn K (.ref C) = true
theorem ExcI.obj {K : PySem.W.Frag} {C f : Addr} {h : Heap} (c : ExcI K C f) (X : K.In h) : ∃ tl0 N nm q bs hdct sn sub ab col dd k0 k1 k2 k3 k5,
  h.get? C = some (excClassObj nm q C N bs tl0 hdct sn sub ab col dd k0 k1 k2 k3 k5 "ValueError.__new__") ∧ OwnTail h bmV tl0 := by
 have z := c.ex
 unfold excInI at z
 split at z
 ·rename_i dct cdat slt look
  split at z
  ·rename_i C2 tl a0 a1 a2 a3 nid a5 m1 m2
   simp only [Bool.and_eq_true, beq_iff_eq, Bool.not_eq_true'] at z
   obtain ⟨⟨⟨⟨rfl, rfl⟩, noDel⟩, tail⟩, isN⟩ := z
   obtain ⟨y1, y2, y3, y4, y5, y6, y7, y8, y9, y10, y11⟩ := cdat
   dsimp only at m1 noDel isN
   subst m1 noDel
   obtain ⟨ls⟩ := slt
   replace m2 : ls = _ := m2
   subst m2
   exact ⟨tl, y4, y1, y5, y2, y6, y7, y8, y9, y10, dct, a0, a1, a2, a3, a5, X _ _ look, PySem.W.tail_of_in X tail⟩
  ·cases z
 ·cases z
noncomputable abbrev xO (C t : Addr) (d : Option Addr) : Obj := { cls := .ref C, dict := d, data := .fields #[.ref t, .none, .none, .none, .bool false, .none] }
noncomputable abbrev newX (h : Heap) (C : Addr) (us : List Value) : Heap := (h.push { cls := .type "tuple", data := .seq us.toArray }).push (xO C h.objs.size none)
section
open PySem.W PySem.Calls Builtin
variable {prog : Program} {w : World} {A : Around} {E : Value → Shared → Prop} {K : PySem.W.Frag} {C f : Addr} {h : Heap} {g : Array GenState} {d : Drawn} {t : Nat} {os : OsState} {us : List Value}
theorem excI_type_call {Q : Fin → Shared → Prop} (c : ExcI K C f) (X : K.In h) (hu : us.length ≤ sizeLine)
  (hq : wpAny (model prog w) A (call (.ref f) (.ref (h.objs.size + 1) :: us)) (fun r s' => r = .none ∧ Q (.done (.ret (.ref (h.objs.size + 1)))) s') E ⟨newX h C us, g, d, t, os⟩) :
  wpAny (model prog w) A (Builtin.«type.__call__» ⟨.ref C :: us, []⟩) Q E ⟨h, g, d, t, os⟩ := by
 obtain ⟨tl0, N, nm, q, bs, hdct, sn, sub, ab, col, dd, k0, k1, k2, k3, k5, hK, T⟩ := c.obj X
 have F := PySem.F.excBase_ValueError
 repeat (first | with_reducible refine wpAny_loadPart_at hK ?_ | with_reducible refine wpAny_madeBy_exc hK ?_ | wp_step)
 refine codeAny_call_builtin_code (Code.quiet_builtin _ F.quiet) (wpAny_check_new_subT F T hK ?_)
 refine codeAny_exc_new_subT F T hK ?_ hu
 show wpAny _ _ _ _ _ ⟨newX h C us, g, d, t, os⟩
 have k1' : ∀ b o, h.get? b = some o → (newX h C us).get? b = some o := fun b o e => Heap.get?_push_of_some _ (Heap.get?_push_of_some _ e)
 have hK1 := k1' _ _ hK
 have X1 : K.In (newX h C us) := X.keeps k1'
 have hG : (newX h C us).get? (h.objs.size + 1) = some (xO C h.objs.size none) := by heap_get
 have hSelf : (Value.ref C :: tl0).contains (.ref C) = true := by simp
 unfold isInstance
 repeat (first | with_reducible refine wpAny_loadPart_at hG ?_ | (with_reducible refine wpAny_isSubtype_exc hK1 ?_; rw [hSelf]) | wp_step)
 show wpAny _ _ (typeLookup (.ref C) _) _ _ _
 refine (looks_findIn (M := model prog w) X1 c.init).at ?_
 refine wpAny_holding (wpAny_bind ((bind_fn (M := model prog w) X1 _ (beq_iff_eq.mp c.fn)).at (wpAny_bind (wpAny_mono hq (fun r s' hr => ?_) fun _ _ z => z))))
 obtain ⟨rfl, hQ⟩ := hr
 wp_walk
 exact hQ
theorem excI_call {Q : Value → Shared → Prop} (c : ExcI K C f) (X : K.In h) (hu : us.length ≤ sizeLine)
  (hq : wpAny (model prog w) (A.under (.builtin "type.__call__" ⟨.ref C :: us, []⟩)) (call (.ref f) (.ref (h.objs.size + 1) :: us)) (fun r s' => r = .none ∧ Q (.ref (h.objs.size + 1)) s') E ⟨newX h C us, g, d, t, os⟩) :
  wpAny (model prog w) A (call (.ref C) us) Q E ⟨h, g, d, t, os⟩ := by
 obtain ⟨tl0, N, nm, q, bs, hdct, sn, sub, ab, col, dd, k0, k1, k2, k3, k5, hK, T⟩ := c.obj X
 have lk1 := tc_lookup
 have lk2 := tc_bind (.ref C)
 have hTy : (⟨h, g, d, t, os⟩ : Shared).TypeIs (.ref C) "type" := ⟨_, hK, rfl⟩
 refine wpAny_call (codeAny_of_tree ?_)
 show wpAny _ _ (callAny (.ref C) _) _ _ _
 repeat (any_goals (first | assumption | with_reducible refine wpAny_loadPart_at hK ?_ | wp_step))
 refine ⟨rfl, ?_⟩
 exact codeAny_call_builtin_at (Code.quiet_builtin _ (by decide +kernel)) entry_typeCall (wpAny_check_type_call_sub hK (excI_type_call c X hu hq))
end
end L2
namespace L2
open PySem PySem.W PySem.Calls PyProof.Rows Builtin Builtin.ObjectAttr
noncomputable def overV : List Value → Bool
 | .ref _ :: r => overV r
 | l => l == bmV
theorem refuse_bmV (self : Value) : refuseLoop self "__setattr__" bmV = pure () := by kernel_rfl
theorem overV_refuse (self : Value) : ∀ {l : List Value}, overV l = true → refuseLoop self "__setattr__" l = pure ()
 | [], e => by cases e
 | v :: r, e => by
  have z : overV (v :: r) = true := e
  unfold overV at z
  split at z
  ·rename_i q; cases q; rw [refuseLoop_ref]; exact overV_refuse self z
  ·rw [beq_iff_eq.mp z]; exact refuse_bmV self
theorem overV_has : ∀ {l : List Value}, overV l = true → l.contains (.type "object") = true
 | [], e => by cases e
 | v :: r, e => by
  unfold overV at e
  split at e
  ·rename_i q; cases q; rw [List.contains_cons, overV_has e, Bool.or_true]
  ·rw [beq_iff_eq.mp e]; decide
structure ExcA (K : PySem.W.Frag) (C : Addr) : Prop where
 sa : findIn K (.ref C) "__setattr__" = some (some (.builtin "object.__setattr__"))
 ov : ((clsIn K C).any fun cd => overV cd.mro) = true
 hd : hasDictIn K C = true
 ga : findIn K (.ref C) "__getattribute__" = some (some (.builtin "BaseException.__getattribute__"))
 gt : findIn K (.ref C) "__getattr__" = some none
 mb : mroIn K C (.type "BaseException") = some true
section
variable {prog : Program} {w : World} {A : Around} {E : Value → Shared → Prop} {K : PySem.W.Frag} {x C : Addr} {s : Shared} {name : Str} {v : Value}
theorem osa_exc {R : Result → Shared → Prop} {tk : Tok} (X : K.In s.heap) (I : Looks (model prog w) s.heap (typeOf (.ref x)) (.ref C)) (c : ExcA K C) (ht : takerIn K C name = some none)
  (h : ∀ b, wpAny (model prog w) A.in1 (storeInOwnDict (.ref x) (.ref C) (.str name tk) name v b)
   (fun fn0 s' => match fn0 with | .done f => R (.ok f) s' | .again c' => c'.quiet = true ∧ codeAny (model prog w) A c' R s') (fun e s' => R (.error e) s') s) :
  codeAny (model prog w) A (.call (.builtin "object.__setattr__") ⟨[.ref x, .str name tk, v], []⟩) R s := by
 have so := PySem.F.store_object
 obtain ⟨cd, hc, ho⟩ := any_some c.ov
 have nonE : cd.mro.isEmpty = false := by cases q : cd.mro with | nil => rw [q] at ho; cases ho | cons _ _ => rfl
 have sub : Looks (model prog w) s.heap (isInstance (.ref x) (.type "object")) true := I.andThen (looks_mroIn X (by unfold mroIn; rw [hc, Option.bind_some, if_neg (by rw [nonE]; decide), overV_has ho]))
 refine codeAny_call_builtin so.slot.plain so.entry (@check_slot (model prog w) _ _ s "object.__setattr__" "object" "__setattr__" (.ref x) [.str name tk, v] [] _ so.kind so.split sub (so.args (.ref x) (.str name tk) v) ?_)
 obtain ⟨at0, ha0, hr0⟩ := Option.bind_eq_some_iff.mp ht
 have lm : Looks (model prog w) s.heap (mroOf (.ref C)) cd.mro := (looks_clsIn X hc).andThen .now
 have lT : Looks (model prog w) s.heap (storeTaker? at0) none := by
  cases at0 with
  | none => exact .now
  | some a =>
   obtain ⟨b, hb, q⟩ := Option.map_eq_some_iff.mp hr0
   cases b with
   | true => cases q
   | false => exact (looks_takesIn X hb).andThen .now
 rw [osa_eq, refuse_eq]
 refine wpAny_bind (wpAny_bind (I.here (wpAny_bind (lm.here ?_))))
 rw [overV_refuse _ ho]
 refine wpAny_pure (wpAny_bind (I.here (wpAny_bind ((looks_findIn X ha0).here (wpAny_bind (lT.here ?_))))))
 exact h _
theorem exc_set {ox : Obj} {dx : Addr} {mA : Str → Option Value} {ns : List Str} {Q : Unit → Shared → Prop} (X : K.In s.heap) (c : ExcA K C) (hx : s.heap.get? x = some ox) (hc : ox.cls = .ref C) (hd : ox.dict = some dx) (ht : takerIn K C name = some none)
  (hn : s.heap.Ns1 dx mA) (hwi : PySem.Within mA ns) (hsz : ns.length ≤ sizeLine)
  (h : ∀ h', h'.Ns1 dx (fun y => if y = name then some v else mA y) → Heap.SameBut dx s.heap h' → Q () { s with heap := h', toks := s.toks + 2 }) :
  wpAny (model prog w) A (setAttr (.ref x) name v) Q E s := by
 have L0 : Looks (model prog w) s.heap (typeOf (.ref x)) (.ref C) := hc ▸ (Looks.ld hx).andThen .now
 refine wpAny_bind (wpAny_mkText (wpAny_bind (wpAny_bind (wpAny_bind (L0 _ _ _ _ (fun _ _ e => e) (looks_findIn X c.sa _ _ _ _ (fun _ _ e => e) (wpAny_holding ?_)))))))
 rw [PySem.F.store_object.slot.bind]
 refine wpAny_bind (wpAny_pure (wpAny_bind (wpAny_call (osa_exc (s := { s with toks := s.toks + 1 }) X L0 c ht fun b => ?_))))
 obtain ⟨cd, hcl, hd'⟩ := any_some c.hd
 refine wpAny_bind (wpAny_pure (wpAny_bind (wpAny_bind (wpAny_loadPart hx ?_))))
 rw [hc]
 refine wpAny_bind (Looks.here (s := { s with toks := s.toks + 1 }) (looks_clsIn X hcl) ?_)
 rw [hd', hd]
 refine wpAny_pure (a := some dx) (wpAny_bind (wpAny_pure (wpAny_bind ?_)))
 refine wpAny_nsSet1 (s := { s with toks := s.toks + 1 }) hn fun h' hn2 hs2 => ?_
 obtain ⟨oQ, esQ, epQ, hoQ, hdQ, hcQ⟩ := hn2.count (PySem.Within.cons name v hwi)
 refine wpAny_bind (wpAny_lookBehind hoQ (by rw [hdQ]; exact pastItsLine_dict (Nat.le_trans hcQ (by rw [List.length_cons]; omega))) ?_)
 exact wpAny_pure (wpAny_pure (wpAny_pure (h _ hn2 hs2)))
theorem exc_set0 {t : Addr} {Q : Unit → Shared → Prop} (X : K.In s.heap) (c : ExcA K C) (hx : s.heap.get? x = some (xO C t none)) (ht : takerIn K C name = some none)
  (h : ∀ h', h'.Ns1 s.heap.objs.size (fun y => if y = name then some v else none) → h'.get? x = some (xO C t (some s.heap.objs.size)) → (∀ b o, b ≠ x → s.heap.get? b = some o → h'.get? b = some o) → Q () { s with heap := h', toks := s.toks + 2 }) :
  wpAny (model prog w) A (setAttr (.ref x) name v) Q E s := by
 have L0 : Looks (model prog w) s.heap (typeOf (.ref x)) (.ref C) := (Looks.ld hx).andThen .now
 refine wpAny_bind (wpAny_mkText (wpAny_bind (wpAny_bind (wpAny_bind (L0 _ _ _ _ (fun _ _ e => e) (looks_findIn X c.sa _ _ _ _ (fun _ _ e => e) (wpAny_holding ?_)))))))
 rw [PySem.F.store_object.slot.bind]
 refine wpAny_bind (wpAny_pure (wpAny_bind (wpAny_call (osa_exc (s := { s with toks := s.toks + 1 }) X L0 c ht fun b => ?_))))
 obtain ⟨cd, hcl, hd'⟩ := any_some c.hd
 refine wpAny_bind (wpAny_pure (wpAny_bind (wpAny_bind (wpAny_loadPart hx (wpAny_bind (Looks.here (s := { s with toks := s.toks + 1 }) (looks_clsIn X hcl) ?_))))))
 rw [hd']
 have hlt : x < s.heap.objs.size := Heap.lt_size hx
 have e1 : (s.heap.push { cls := .type "dict", data := .dict #[] }).get? s.heap.objs.size = some { cls := .type "dict", data := .dict #[] } := Heap.get?_push_size s.heap rfl
 have e2 : (s.heap.push { cls := .type "dict", data := .dict #[] }).get? x = some (xO C t none) := Heap.get?_push_of_some _ hx
 refine wpAny_bind (wpAny_alloc (wpAny_bind (wpAny_update e2 ?_)))
 refine wpAny_pure (a := some s.heap.objs.size) (wpAny_bind (wpAny_pure (wpAny_bind ?_)))
 have e3 : ((s.heap.push { cls := .type "dict", data := .dict #[] }).update x fun o => { o with dict := some s.heap.objs.size }).get? s.heap.objs.size = some { cls := .type "dict", data := .dict #[] } := (Heap.get?_update_other _ _ (Nat.ne_of_lt hlt)).trans e1
 have e4 : ((s.heap.push { cls := .type "dict", data := .dict #[] }).update x fun o => { o with dict := some s.heap.objs.size }).get? x = some (xO C t (some s.heap.objs.size)) := Heap.get?_update_self _ e2 rfl
 have e5 : ((s.heap.push { cls := .type "dict", data := .dict #[] }).update x fun o => { o with dict := some s.heap.objs.size }).Ns s.heap.objs.size (fun _ => none) := ⟨_, #[], _, e3, rfl, (fun e he => absurd he (by simp)), fun _ => rfl⟩
 refine wpAny_nsSet1 (s := { s with heap := (s.heap.push { cls := .type "dict", data := .dict #[] }).update x fun o => { o with dict := some s.heap.objs.size }, toks := s.toks + 1 }) (Heap.Ns1.of_empty e5) fun h' hn2 hs2 => ?_
 obtain ⟨oQ, esQ, epQ, hoQ, hdQ, hcQ⟩ := hn2.count (PySem.Within.cons (ns := []) name v fun y hy => absurd rfl hy)
 refine wpAny_bind (wpAny_lookBehind hoQ (by rw [hdQ]; exact pastItsLine_dict (Nat.le_trans hcQ (by show 1 ≤ sizeLine + 1; decide))) ?_)
 refine wpAny_pure (wpAny_pure (wpAny_pure (h _ hn2 ((hs2.2 _ (Nat.ne_of_lt hlt)).trans e4) fun b o hb q => ?_)))
 refine (hs2.2 b (Nat.ne_of_lt (Heap.lt_size q))).trans ?_
 exact (Heap.get?_update_other _ _ (Ne.symm hb)).trans (Heap.get?_push_of_some _ q)
end
end L2
namespace L2
open PySem PySem.W PySem.Calls PyProof.Rows Builtin Builtin.ObjectAttr
section
variable {prog : Program} {w : World} {A : Around} {E : Value → Shared → Prop} {K : PySem.W.Frag} {x C : Addr} {s : Shared} {name : Str} {v : Value}
theorem exc_attr {ox : Obj} {od : Option Obj} {expr : Bool} {Q : Value → Shared → Prop} (X : K.In s.heap) (c : ExcA K C) (I : PySem.W.InstAt s.heap x ox C od) (hf : findObj K C od name = some (.value v)) (hh : handedIn v = true)
  (h : Q v { s with toks := s.toks + 1 }) : wpAny (model prog w) A (getAttr (.ref x) name expr) Q E s := by
 obtain ⟨hp, g, d, t, os⟩ := s
 have lt0 := I.type (M := model prog w)
 have lt1 := looks_findIn (M := model prog w) X c.ga
 have L2' := looks_findIn (M := model prog w) X c.gt
 have LB := looks_mroIn (M := model prog w) X c.mb
 have LF := looks_find (M := model prog w) X I hf
 unfold getAttr getAttrBy
 refine wpAny_bind (wpAny_mkText (wpAny_holding (wpAny_bind (lt0.at (wpAny_bind (lt1.at ?_))))))
 have hne : (onTheHeap (Value.ref C) && Value.builtin "BaseException.__getattribute__" == Value.builtin "object.__getattribute__") = false := by
  rw [show (Value.builtin "BaseException.__getattribute__" == Value.builtin "object.__getattribute__") = false by decide +kernel]; rfl
 dsimp only
 rw [if_neg (by rw [hne]; decide)]
 unfold getAttrByItsOwn hookBefore
 rw [if_pos (show onTheHeap (Value.ref C) = true from rfl)]
 refine wpAny_bind (L2'.at (wpAny_bind (wpAny_attempt (wpAny_holding ?_))))
 unfold callGetattribute boundAndCalled
 rw [if_neg (by cases expr <;> decide)]
 refine wpAny_bind (wpAny_of_eq (PySem.F.attr_ValueError.ga.bind (.ref x)) ?_)
 refine wpAny_call (codeAny_call_builtin PySem.F.attr_ValueError.ga.plain PySem.F.entry_bexc_ga ?_)
 have hkd : builtinKind "BaseException.__getattribute__" = some .slot := by decide +kernel
 have hsp : splitId "BaseException.__getattribute__" = some ("BaseException", "__getattribute__") := by decide +kernel
 have ha := PySem.F.args_bexc_ga (.ref x) (.str name t)
 simp only [checkBuiltinCall, hkd, hsp]
 have LI : Looks (model prog w) hp (isInstance (.ref x) (.type "BaseException")) true := lt0.andThen LB
 refine wpAny_bind (LI.at ?_)
 repeat (first | assumption | wp_step)
 refine wpAny_loadPart I.at_ (wpAny_pure ?_)
 rw [I.cls]
 refine wpAny_bind (LF.at ?_)
 exact wpAny_pure (handed_on hh h)
end
end L2
namespace L2
open PySem PySem.Spec PyProof.Rows
noncomputable def exO (e C t : Addr) (d : Option Addr) : HO := .ext fun h => h.get? e = some (xO C t d)
noncomputable def xdO (d : Addr) (fs : List (Str × V)) : HO := .ext fun h => ∃ mA, h.Ns1 d mA ∧ (∀ f, RelO (fs.lookup f) (mA f)) ∧ PySem.Within mA (fs.map (·.1))
theorem exO_get {P : Program} {w : World} {H : Hp} {h : Heap} {e C t : Addr} {d : Option Addr} (x : ObjOk P w H h e (exO e C t d)) : h.get? e = some (xO C t d) := x.1
theorem exO_ok {P : Program} {w : World} {H : Hp} {h : Heap} {e C t : Addr} {d : Option Addr} (x : h.get? e = some (xO C t d)) : ObjOk P w H h e (exO e C t d) := ⟨x, ⟨_, x⟩, fun h1 h2 q k => k _ q⟩
theorem xdO_get {P : Program} {w : World} {H : Hp} {h : Heap} {d : Addr} {fs : List (Str × V)} (x : ObjOk P w H h d (xdO d fs)) : ∃ mA, h.Ns1 d mA ∧ (∀ f, RelO (fs.lookup f) (mA f)) ∧ PySem.Within mA (fs.map (·.1)) := x.1
theorem xdO_ok {P : Program} {w : World} {H : Hp} {h : Heap} {d : Addr} {fs : List (Str × V)} {mA : Str → Option Value} (n : h.Ns1 d mA) (r : ∀ f, RelO (fs.lookup f) (mA f)) (wi : PySem.Within mA (fs.map (·.1))) : ObjOk P w H h d (xdO d fs) := by
 obtain ⟨o, es, ep, e, z⟩ := id n
 exact ⟨⟨mA, n, r, wi⟩, ⟨o, e⟩, fun h1 h2 ⟨m, q1, q2, q3⟩ k => ⟨m, q1.at k, q2, q3⟩⟩
noncomputable def sFldX (K : PySem.W.Frag) (ta tv : TE) (f : Str) : TS := fun D σ H => tv σ H fun y H1 => ta σ H1 fun x H2 => ∃ e C, x = .ref e ∧ ExcA K C ∧ NoAttr K C f ∧
  ((∃ t, H2 e = some (exO e C t none) ∧ ∀ d, H2 d = none → d ≠ e → D.nx σ (upd (upd H2 d (xdO d [(f, y)])) e (exO e C t (some d)))) ∨
   (∃ t d fs, H2 e = some (exO e C t (some d)) ∧ H2 d = some (xdO d fs) ∧ fs.length < 1000 ∧ D.nx σ (upd H2 d (xdO d (putF f y fs)))))
section
variable {X : Cx} {pins : List (Addr × Obj)} {σ : St} {H : Hp} {s : Shared} {e C t : Addr} {f : Str} {A : Around} {E : Value → Shared → Prop}
theorem setX0 {y : V} {u : Value} {Q : Unit → Shared → Prop} (I : Inv X pins σ H s) (he : H e = some (exO e C t none)) (c : ExcA X.K C) (n : NoAttr X.K C f) (ry : RelV y u)
  (h : ∀ d s', H d = none → d ≠ e → Inv X pins σ (upd (upd H d (xdO d [(f, y)])) e (exO e C t (some d))) s' → Q () s') : wpAny (model X.prog X.w) A (setAttr (.ref e) f u) Q E s := by
 have hx := exO_get (I.hok _ _ he)
 refine exc_set0 I.kIn c hx n.taker fun h' hn hx' k => h s.heap.objs.size _ (I.hok.fresh (Nat.le_refl _)) (Nat.ne_of_gt (Heap.lt_size hx)) ?_
 have ne : e ≠ s.heap.objs.size := Nat.ne_of_lt (Heap.lt_size hx)
 have g1 : (h'.update e fun o => { o with dict := none }).get? e = some (xO C t none) := Heap.get?_update_self _ hx' rfl
 have g2 : ∀ b, b ≠ e → (h'.update e fun o => { o with dict := none }).get? b = h'.get? b := fun b hb => Heap.get?_update_other _ _ (Ne.symm hb)
 have I1 : Inv X pins σ (upd H s.heap.objs.size (xdO s.heap.objs.size [(f, y)])) { s with heap := h'.update e fun o => { o with dict := none }, toks := s.toks + 2 } := I.laid (fun b o q => by
   by_cases hb : b = e
   ·subst hb; rw [hx] at q; cases q; exact g1
   ·exact (g2 b hb).trans (k b o hb q)) (Nat.le_refl _) (xdO_ok (hn.at fun o q => (g2 _ (Ne.symm ne)).trans q) (fun g => by
    show RelO (List.lookup g [(f, y)]) (if g = f then some u else none)
    by_cases q : g = f
    ·have hb : (g == f) = true := beq_iff_eq.mpr q
     simp only [List.lookup, hb, if_pos q]; exact ry
    ·have hb : (g == f) = false := beq_eq_false_iff_ne.mpr q
     simp only [List.lookup, hb, if_neg q]; exact True.intro) fun g hg => by
    by_cases q : g = f
    ·rw [q]; simp
    ·rw [if_neg q] at hg; exact absurd rfl hg)
 have I2 := I1.write (x := e) (e := e) (o := exO e C t (some s.heap.objs.size)) (h' := h') (t' := s.toks + 2) (by rw [upd_ne ne, he]; exact True.intro) (.inl rfl) (fun b o hb q => by rw [← g2 b hb]; exact q) ⟨_, hx'⟩ (exO_ok hx')
 exact I2
theorem setX {d : Addr} {fs : List (Str × V)} {y : V} {u : Value} {Q : Unit → Shared → Prop} (I : Inv X pins σ H s) (he : H e = some (exO e C t (some d))) (hd : H d = some (xdO d fs)) (c : ExcA X.K C) (n : NoAttr X.K C f) (hl : fs.length < 1000) (ry : RelV y u)
  (h : ∀ s', Inv X pins σ (upd H d (xdO d (putF f y fs))) s' → Q () s') : wpAny (model X.prog X.w) A (setAttr (.ref e) f u) Q E s := by
 have hx := exO_get (I.hok _ _ he)
 obtain ⟨mA, hn, r, wi⟩ := xdO_get (I.hok _ _ hd)
 have hz : (fs.map (·.1)).length ≤ sizeLine := by rw [List.length_map, sizeLine_eq]; omega
 refine exc_set I.kIn c hx rfl rfl n.taker hn wi hz fun h' hn' sb => h _ ?_
 obtain ⟨o, es, ep, ho, _⟩ := id hn'
 refine I.write (x := d) (e := d) (by rw [hd]; exact True.intro) (.inl rfl) (fun b q hb z => (sb.2 b hb).trans z) ⟨o, ho⟩ (xdO_ok hn' (fun g => ?_) fun g hg => ?_)
 ·show RelO ((putF f y fs).lookup g) (if g = f then some u else mA g)
  rw [lookup_putF]
  by_cases q : g = f
  ·rw [if_pos q, if_pos q]; exact ry
  ·rw [if_neg q, if_neg q]; exact r g
 ·by_cases q : g = f
  ·rw [q]; exact (keys_putF f y fs).1
  ·refine (keys_putF f y fs).2 g (wi g fun z => hg ?_)
   show (if g = f then some u else mA g) = none
   rw [if_neg q]; exact z
end
section
variable {X : Cx} {o value : Expr} {f : Str} {pos pos' : Pos} {ta tv : TE}
theorem ps_fldX (ha : PE X o ta) (hv : PE X value tv) (hs : swapsWith value (some (.Attribute o f pos')) pos.line X.env = pure false) : PS X (.Assign [.Attribute o f pos'] value pos) (sFldX X.K ta tv f) := by
 intro pins s σ H D I h
 refine plainObj_wpAny_Assign_Attribute (thn (hv pins s σ H _ I h) fun u s1 ⟨y, H1, I1, ry, q⟩ => thn (ha pins s1 σ H1 _ I1 q) fun ov s2 ⟨x, H2, I2, rx, e, C, ex, c, n, q2⟩ => ?_) hs
 subst ex
 obtain rfl : ov = Value.ref e := rx
 rcases q2 with ⟨t, he, z⟩ | ⟨t, d, fs, he, hd, l, z⟩
 ·exact setX0 I2 he c n ry fun d s3 hd hne I3 => ⟨σ, _, I3, z d hd hne⟩
 ·exact setX I2 he hd c n l ry fun s3 I3 => ⟨σ, _, I3, z⟩
end
noncomputable def tMakeX (n0 : Nat) (C : Addr) (sp : Sp) (E : XK) (t : TA) : TE := fun σ H Q => t σ H fun vs H1 => ∀ x tt, H1 x = none → n0 ≤ x → sp (.ref x :: vs) (upd H1 x (exO x C tt none)) (fun v H2 => v = .non ∧ Q (.ref x) H2) E
section
variable {X : Cx} {CX : CXT} {k : Nat} {f C : Addr} {fd : FuncData} {ps : List Str} {sp : Sp} {E : XK} {x : Str} {p pos : Pos} {e : Expr} {es : List Expr} {t : TA}
theorem run_makeX {pins : List (Addr × Obj)} {σ : St} {H : Hp} {s : Shared} {Q : VK} {us : List Value} {vs : List V} (M : ExcI X.K C f) (F : FnOk X.prog X.w X.K X.mg X.base CX k f fd ps sp) (hr : Room (k + 1) X.A) (hb : Binds X.K fd ps [])
  (hx : Passes CX X E) (I : Inv X pins σ H s) (r : Vals vs us) (hu : us.length ≤ sizeLine)
  (h : ∀ x tt, H x = none → X.s₀.heap.objs.size ≤ x → sp (.ref x :: vs) (upd H x (exO x C tt none)) (fun v H2 => v = .non ∧ Q (.ref x) H2) E) :
  wpAny (model X.prog X.w) X.A (call (.ref C) us) (EP X pins σ Q) X.xe s := by
 have hq := h (s.heap.objs.size + 1) s.heap.objs.size (I.hok.fresh (Nat.le_succ _)) (Nat.le_trans I.sz (Nat.le_succ _))
 have e2 : (newX s.heap C us).get? (s.heap.objs.size + 1) = some (xO C s.heap.objs.size none) := by
  have := Heap.get?_push_size (s.heap.push { cls := .type "tuple", data := .seq us.toArray }) (o := xO C s.heap.objs.size none) rfl
  rwa [Heap.size_push] at this
 have I2 : Inv X pins σ (upd H (s.heap.objs.size + 1) (exO (s.heap.objs.size + 1) C s.heap.objs.size none)) { s with heap := newX s.heap C us } :=
  I.laid (h' := newX s.heap C us) (t' := s.toks) (fun b o q => Heap.get?_push_of_some _ (Heap.get?_push_of_some _ q)) (Nat.le_succ _) (exO_ok e2)
 have r2 : Vals (V.ref (s.heap.objs.size + 1) :: vs) (Value.ref (s.heap.objs.size + 1) :: us) := .cons rfl r
 have hl : ((Value.ref (s.heap.objs.size + 1) :: us) ++ []).length = ps.length := by
  have e := r2.length
  rw [F.len _ _ _ _ hq] at e
  rw [List.append_nil]
  exact e.symm
 obtain ⟨hp, g, d, tk, os⟩ := s
 refine excI_call M I.kIn hu (wpAny_call (codeAny_mono (F.run _ X.stack _ _ ⟨Value.ref (hp.objs.size + 1) :: us, []⟩ (Value.ref (hp.objs.size + 1) :: us) _ _ E (hr.make C us [])
  (I2.env0.make C us []) (by have := hb _ (Value.ref (hp.objs.size + 1) :: us) I2.kIn hl; rwa [List.append_nil] at this) r2 hq) fun r s' hq' => ?_))
 cases r with
 | error e => exact hx pins σ _ _ e s' I2 hq'
 | ok fl =>
  cases fl with
  | ret u =>
   obtain ⟨v, H', I3, rv, ev, q3⟩ := I2.after hq'
   subst ev
   exact ⟨rv, ⟨V.ref (hp.objs.size + 1), H', I3, rfl, q3⟩⟩
  | next => exact False.elim hq'
  | brk => exact False.elim hq'
  | cont => exact False.elim hq'
theorem pe_makeX (M : ExcI X.K C f) (F : FnOk X.prog X.w X.K X.mg X.base CX k f fd ps sp) (hr : Room (k + 1) X.A) (hg : Gl X x) (hm : X.mg x = some (.ref C)) (hb : Binds X.K fd ps []) (hx : Passes CX X E)
  (ha : PA X (e :: es) t) (hlen : ps.length ≤ 1000) (hdb : (x == ("__debug__" : Str)) = false := by decide) (he : starEach (e :: es) X.env = (false, eval e X.env) :: starEach es X.env := by rfl) (hpl : (backTo pos (starEach es X.env)).any (·.1) = false := by rfl) :
  PE X (.Call (.Name x p) (e :: es) [] pos) (tMakeX X.s₀.heap.objs.size C sp E t) := by
 intro pins s σ H Q I h
 refine wpAny_Call_Name_kw (ld_glob I hg hm ?_ hdb)
 refine PySem.W.callWith_K (h₀ := X.base) I.ok.mod.kin M.kp (thn (ha pos pins s σ H _ I h) fun us s1 ⟨vs, H1, I1, r, q⟩ => ⟨I1.kIn, ?_⟩) he hpl
 refine run_makeX M F hr hb hx I1 r ?_ q
 have e1 := F.len _ _ _ _ (q (s1.heap.objs.size) 0 (I1.hok.fresh (Nat.le_refl _)) I1.sz)
 have e2 := r.length
 rw [List.length_cons] at e1
 rw [List.nil_append, sizeLine_eq]; omega
end
end L2
namespace L2
open PySem PySem.Spec PyProof.Rows
noncomputable def dropH (H : Hp) (e : Addr) : Hp := fun b => if b = e then none else H b
theorem dropH_same {H : Hp} {e : Addr} : dropH H e e = none := if_pos rfl
theorem dropH_ne {H : Hp} {e b : Addr} (h : b ≠ e) : dropH H e b = H b := if_neg h
noncomputable def CXD (P : Program) (w : World) : CXT := fun outer H s E e s' => ∃ a cls d H', e = .ref a ∧ Fly P w outer H s a cls H' s' ∧ DictAt a d s'.heap ∧ E cls d H'
section
variable {X : Cx} {pins : List (Addr × Obj)} {σ : St} {H H' : Hp} {s s' : Shared} {cls : Value} {e : Addr} {Q : Unit → Shared → Prop} {E' : Value → Shared → Prop}
theorem HOk.drop {P : Program} {w : World} {h : Heap} {C t : Addr} {d : Option Addr} (ok : HOk P w H h) (heX : H e = some (exO e C t d)) : HOk P w (dropH H e) h := fun a o q => by
 have hne : a ≠ e := fun z => by rw [z, dropH_same] at q; cases q
 rw [dropH_ne hne] at q
 refine (ok a o q).stay (fun _ _ _ z => z) (fun b z => ?_) fun b xs z => ?_
 ·have : b ≠ e := fun y => by rw [y, heX] at z; cases z
  rw [dropH_ne this]; exact z
 ·have : b ≠ e := fun y => by rw [y, heX] at z; cases z
  rw [dropH_ne this]; exact z
theorem raise_outX {C t : Addr} {d : Option Addr} (I : Inv X pins σ H s) (hs : X.stack = X.env :: X.outer) (hf : X.env.frame = some X.env.locals) (hex : X.ex = []) (heX : H e = some (exO e C t d)) (hn0 : X.s₀.heap.objs.size ≤ e)
  (k : ∀ h', Fly X.prog X.w X.outer X.H₀ X.s₀ e (.ref C) (dropH H e) { s with heap := h' } → DictAt e d h' → Q () { s with heap := h' }) : wpAny (model X.prog X.w) X.A (leaving X.env (.ref e)) Q E' s := by
 have st : s.heap.FunFrames X.base X.stack := I.stack
 have hx := exO_get (I.hok _ _ heX)
 have hin : ∀ env ∈ X.stack, ∀ b, env.frame = some b → b ∈ e :: frs X.stack := fun env he' b hb => List.mem_cons_of_mem _ (List.mem_filterMap.mpr ⟨env, he', hb⟩)
 have fB := PySem.W.funFrames_hide (as := e :: frs X.stack) st hin
 have hfr := I.ok.frames
 rw [hs] at hfr fB
 have hB : (PySem.W.hideAll s.heap (e :: frs X.stack)).StaysIn s.heap := fun b o q => PySem.W.of_hideAll _ q
 have hBe : (PySem.W.hideAll s.heap (e :: frs X.stack)).get? e = none := PySem.W.hideAll_none _ List.mem_cons_self
 refine wpAny_mono (KD.any (e := e) (d := d) KD.leaving ⟨_, hx, rfl⟩ (wpAny_leaving_firstW (Q := fun _ s' => ∃ h', s' = { s with heap := h' } ∧ Heap.LeftW (PySem.W.hideAll s.heap (e :: frs X.stack)) (X.env :: X.outer) e (.ref C) (.ref t) s.heap h') (E := E')
  hfr (by rw [hs] at *; exact fB) hf hx (by rw [hs] at *; exact hB) (by rw [hs] at *; exact hBe) rfl rfl rfl fun h' z => ⟨h', rfl, by rw [hs] at *; exact z⟩)) (fun _ s' z => ?_) fun _ _ z => z
 obtain ⟨⟨h', rfl, L1, L2', L3, L4⟩, hD⟩ := z
 have x1 : Heap.FlyingW (PySem.W.hideAll s.heap (e :: frs X.stack)) X.outer e (.ref C) (.ref t) h' := ⟨L1, hBe, L2'.2.2, L3⟩
 refine k h' ?_ hD
 have nex : ∀ b, b ∉ X.ex := fun b hb => by rw [hex] at hb; cases hb
 have notE : ∀ b o, X.s₀.heap.get? b = some o → b ≠ e := fun b o q z => absurd (Nat.lt_of_lt_of_le (Heap.lt_size q) hn0) (by rw [z]; exact Nat.lt_irrefl _)
 have kB : ∀ b o, s.heap.get? b = some o → b ≠ e → b ∉ frs X.stack → (PySem.W.hideAll s.heap (e :: frs X.stack)).get? b = some o := fun b o q n1 n => PySem.W.hideAll_get _ q fun z => (List.mem_cons.mp z).elim n1 n
 have kS : ∀ b o, s.heap.get? b = some o → b ∈ frs X.stack → ∃ sl, h'.get? b = some { o with slots := sl } := fun b o q hb => L4 b o q (by
  obtain ⟨_, o', ho', hd⟩ := st.mem hb
  rw [q] at ho'; cases ho'; exact hd)
 have kT : ∀ b u, H b = some u → b ∉ frs X.stack := fun b u q hb => by
  have := I.stkFree b hb
  rw [q] at this; cases this
 have up : ∀ {b : Addr}, b ∈ X.fs → b ∈ frs X.stack := fun hb => by rw [hs]; exact frs_cons hb
 have tr : ∀ b u, dropH H e b = some u → b ≠ e ∧ H b = some u := fun b u q => by
  have n : b ≠ e := fun z => by rw [z, dropH_same] at q; cases q
  rw [dropH_ne n] at q
  exact ⟨n, q⟩
 have dr : ∀ b u, H b = some u → (∀ φ, u ≠ .ext φ) → dropH H e b = some u := fun b u q n => by
  have : b ≠ e := fun y => by rw [y, heX] at q; cases q; exact n _ rfl
  rw [dropH_ne this]; exact q
 refine ⟨I.os, I.bare, ⟨fun b o q n hb _ => ?_, fun b o q n hb _ => ?_, fun b o q n _ => ?_, fun b o q _ => ?_, fun b xs q => dr _ _ (I.base.tups b xs q) (fun _ z => by cases z), fun b o u q => dr _ _ (I.base.frzs b o u q) (fun _ z => by cases z), fun b ps q => ?_⟩,
  (HOk.drop I.hok heX).tracked fun b u o q z => x1.1 b o (kB b o z (tr b u q).1 (kT b u (tr b u q).2)), _, _, x1, fun b o q n hb => ?_, fun b o q hb => ?_, fun b u q => ?_⟩
 ·exact x1.1 b o (kB b o (I.base.keep b o q n hb (nex b)) (notE b o q) (I.notOwn q hb))
 ·obtain ⟨sl, e1⟩ := I.base.slot b o q n hb (nex b)
  obtain ⟨sl', e2⟩ := kS b _ e1 (up hb)
  exact ⟨sl', e2⟩
 ·rw [dropH_ne (notE b o q)]; exact I.base.free b o q n (nex b)
 ·obtain ⟨o', e1⟩ := I.base.there b o q (nex b)
  by_cases hm : b ∈ frs X.stack
  ·obtain ⟨sl, e2⟩ := kS b o' e1 hm; exact ⟨_, e2⟩
  ·exact ⟨o', x1.1 b o' (kB b o' e1 (notE b o q) hm)⟩
 ·obtain ⟨m, e1⟩ := I.base.tbls b ps q
  exact ⟨m, dr _ _ e1 (fun _ z => by cases z)⟩
 ·exact kB b o (I.base.keep b o q n hb (nex b)) (notE b o q) (I.notOwn q hb)
 ·obtain ⟨o', e1⟩ := I.base.there b o q (nex b)
  exact ⟨o', kB b o' e1 (notE b o q) (I.notOwn q hb)⟩
 ·obtain ⟨o, e1⟩ := (I.hok b u (tr b u q).2).isThere
  exact ⟨o, kB b o e1 (tr b u q).1 (kT b u (tr b u q).2)⟩
theorem pass_outD {d : Option Addr} (I : Inv X pins σ H s) (hs : X.stack = X.env :: X.outer) (hf : X.env.frame = some X.env.locals) (hex : X.ex = []) (F : Fly X.prog X.w X.stack H s e cls H' s') (hd : DictAt e d s'.heap)
  (k : ∀ h', Fly X.prog X.w X.outer X.H₀ X.s₀ e cls H' { s' with heap := h' } → DictAt e d h' → Q () { s' with heap := h' }) : wpAny (model X.prog X.w) X.A (leaving X.env (.ref e)) Q E' s' := by
 refine wpAny_mono (KD.any KD.leaving hd (pass_out (Q := fun _ s'' => ∃ h', s'' = { s' with heap := h' } ∧ Fly X.prog X.w X.outer X.H₀ X.s₀ e cls H' { s' with heap := h' }) (E' := E') I hs hf hex F fun h' F' => ⟨h', rfl, F'⟩)) (fun _ s'' z => ?_) fun _ _ z => z
 obtain ⟨⟨h', rfl, F'⟩, hD⟩ := z
 exact k h' F' hD
end
theorem passD {P : Program} {w : World} {K : PySem.W.Frag} {mg : Str → Option Value} {base : Heap} {N : List Str} {qual : Str} {scope : Scope} {f : Addr} {cd : Value} {A : Around} {outer : List Env} {s : Shared} {H : Hp} {E : XK} :
  Passes (CXD P w) (cxOf (CXD P w) P w K mg base N qual scope f cd A outer s H E) E := by
 intro pins σ H1 s1 e s2 I h
 obtain ⟨a, cls, d, H', rfl, F, hd, q⟩ := h
 exact pass_outD (X := cxOf (CXD P w) P w K mg base N qual scope f cd A outer s H E) I rfl rfl rfl F hd fun h' F' hd' => ⟨a, cls, d, H', rfl, F', hd', q⟩
section
variable {M : Model} {A : Around} {E : Value → Shared → Prop} {env : Env}
variable {nm q : Str} {C N : Addr} {bs tl0 : List Value} {hdct : Bool} {sn : List Str} {sub : List Value} {ab : Bool} {col : Option Bool} {dd : Option Addr} {k0 k1 k2 k3 k5 : Option Value} {newId : String}
theorem raise_made {s : Shared} {Q : Flow → Shared → Prop} {e t : Addr} {d : Option Addr} (hbase : tl0.contains (.type "BaseException") = true) (hh : A.handled = none) (hC : s.heap.get? C = some (excClassObj nm q C N bs tl0 hdct sn sub ab col dd k0 k1 k2 k3 k5 newId))
  (heX : s.heap.get? e = some (xO C t d)) (hE : E (.ref e) s) : wpAny M A (raiseStmt env (some (pure (.ref e))) none) Q E s := by
 have hIn : (Value.ref C :: tl0).contains (.type "BaseException") = true := by rw [List.contains_cons, hbase, Bool.or_true]
 unfold raiseStmt
 refine wpAny_bind (wpAny_pure ?_)
 obtain ⟨hp0, g, dr, tk0, os⟩ := s
 repeat (first | with_reducible refine wpAny_loadPart_at heX ?_ | with_reducible refine wpAny_loadPart_at hC ?_ | (with_reducible refine wpAny_isSubtype_exc hC ?_; rw [hIn]) | wp_step)
 exact wpAny_raiseNew_none hh hE
theorem raise_any {s : Shared} {Q : Flow → Shared → Prop} {x : Sem Value} (h : wpAny M A x (fun v s₁ => wpAny M A (raiseStmt env (some (pure v)) none) Q E s₁) E s) : wpAny M A (raiseStmt env (some x) none) Q E s := by
 unfold raiseStmt at h ⊢
 refine wpAny_bind (wpAny_mono h (fun v s₁ z => ?_) fun _ _ z => z)
 exact z
end
section
variable {X : Cx} {ex : Expr} {pos : Pos} {E : XK} {ta : TE}
theorem ps_raiseX (hxe : X.xe = fun e s' => wpAny (model X.prog X.w) X.A (leaving X.env e) (fun _ s'' => CXD X.prog X.w X.outer X.H₀ X.s₀ E e s'') (fun e' s'' => CXD X.prog X.w X.outer X.H₀ X.s₀ E e' s'') s')
  (hs : X.stack = X.env :: X.outer) (hf : X.env.frame = some X.env.locals) (hex : X.ex = []) (hc : X.calm = true) (ha : PE X ex ta) :
  PS X (.Raise (some ex) none pos) (fun _ σ H => ta σ H fun x H2 => ∃ e C f t d, x = .ref e ∧ X.s₀.heap.objs.size ≤ e ∧ ExcI X.K C f ∧ H2 e = some (exO e C t d) ∧ E (.ref C) d (dropH H2 e)) := by
 intro pins s σ H D I h
 rw [arm_exec_Raise]
 refine wpAny_bind (wpAny_standAt (raise_any (wpAny_bind (thn (ha pins s σ H _ I h) fun u s1 ⟨x, H1, I1, rx, e, C, f, t, d, hx, hn, c, heX, q⟩ => wpAny_bind (wpAny_standAt (wpAny_pure ?_))))))
 subst hx
 obtain rfl : u = Value.ref e := rx
 obtain ⟨tl0, N, nm, q', bs, hdct, sn, sub, ab, col, dd, k0, k1, k2, k3, k5, hC, T⟩ := c.obj I1.kIn
 refine raise_made (T.hasType PySem.F.excBase_ValueError.hasBase) (I1.ok.hd hc) hC (exO_get (I1.hok _ _ heX)) ?_
 rw [hxe]
 exact raise_outX I1 hs hf hex heX hn fun h' F hD => ⟨e, _, d, _, rfl, F, hD, q⟩
end
end L2
namespace L2
open PySem PySem.Spec PyProof.Rows
noncomputable def LandsD (X : Cx) (E : XK) : Value → Shared → Prop := fun v s' => ∃ pins σ H s e cls d H', v = .ref e ∧ Inv X pins σ H s ∧ Fly X.prog X.w X.stack H s e cls H' s' ∧ DictAt e d s'.heap ∧ E cls d H'
theorem pass_landsD {X : Cx} {E : XK} : Passes (CXD X.prog X.w) (X.wish (LandsD X E)) E := by
 intro pins σ H s e s' I h
 obtain ⟨a, cls, d, H', rfl, F, hd, q⟩ := h
 exact ⟨pins, σ, H, s, a, cls, d, H', rfl, I.unwish, F, hd, q⟩
section
variable {X : Cx} {E : XK} {R : VK} {y n : Str} {i : Nat} {Cy : Addr} {b₀ : Stmt} {suite : List Stmt} {np hp : Pos} {tS : Addr → Obj → TS}
theorem catch_asD (hs : X.stack = X.env :: X.outer) (hf : X.env.frame = some X.env.locals) (hpn : X.pn = []) (hcalm : X.calm = true) (hy : Gl X y) (hm : X.mg y = some (.ref Cy)) (hN : X.N.Nodup) (hi : X.N[i]? = some n) (hn : X.env.scope.names.lookup n = some .local)
  (hk : ∀ cls d H', E cls d H' → PySem.W.exmOne X.K cls (.ref Cy) = some true) (hS : ∀ e oe, PSs (X.within e oe) (b₀ :: suite) (tS e oe))
  (q : ∀ e oe cls d H', oe.cls = cls → oe.dict = d → PySem.W.notCls oe = true → E cls d H' → tS e oe { nx := fun _ _ => False, rt := R } ((List.replicate X.N.length none).set i (some (.ref e))) H') (hdb : (y == ("__debug__" : Str)) = false) {D : Ends} (hD : D.rt = R) {v : Value} {s' : Shared} (h : LandsD X E v s') :
  wpAny (model X.prog X.w) X.A (noteFrame v X.env) (fun _ s₂ => wpAny (model X.prog X.w) X.A (setFlight v none) (fun _ s₃ => wpAny (model X.prog X.w) X.A (handleBy v X.env [.ExceptHandler (some (.Name y np)) (some n) (b₀ :: suite) hp]) (SP X [] D) X.xe s₃) X.xe s₂) X.xe s' := by
 obtain ⟨pins, σ, H, s, e, cls, d, H', rfl, I, F, hd0, qE⟩ := h
 obtain ⟨B, a0, hfl, g1, g2, g3⟩ := F.fly
 have hfr := I.ok.frames
 have hfl1 := hfl
 rw [hs] at hfr hfl1
 have heH : H' e = none := by
  cases z : H' e with
  | none => rfl
  | some u =>
   obtain ⟨o, e1⟩ := g3 e u z
   rw [hfl.2.1] at e1; cases e1
 have obj : ∀ {h : Heap}, Heap.FlyingW B (X.env :: X.outer) e cls a0 h → DictAt e d h → Inv X pins σ H' { s' with heap := h } → ∃ oe, oe.cls = cls ∧ oe.dict = d ∧ PySem.W.notCls oe = true ∧ h.get? e = some oe ∧ ∀ {pins' σ'}, Inv X pins' σ' H' { s' with heap := h } → Inv (X.within e oe) pins' σ' H' { s' with heap := h } := fun {h} fl dA J => by
  obtain ⟨oe, vs, ho, hc, hd, _⟩ := fl.first
  obtain ⟨o2, ho2, hd2⟩ := dA
  rw [ho] at ho2; cases ho2
  refine ⟨oe, hc, hd2, ?_, ho, fun J' => J'.within ho heH ?_ ?_ ?_⟩
  ·unfold PySem.W.notCls; rw [hd]
  ·intro z
   obtain ⟨m, ⟨o2, es, ep, ho2, hd2, _⟩, _⟩ := J'.loc
   rw [← z, ho] at ho2; cases ho2
   rw [hd] at hd2; cases hd2
  ·intro z
   obtain ⟨_, o2, ho2, hd2⟩ := J'.funs.mem z
   rw [ho] at ho2; cases ho2
   exact hd2 _ hd
  ·intro v z
   rw [hd] at z; cases z
 refine wpAny_mono (KD.any KD.noteFrame hd0 (wpAny_looks_onW (Q := fun _ s₂ => ∃ h₄, s₂ = { s' with heap := h₄ } ∧ Heap.HeldW B (X.env :: X.outer) e cls a0 X.env.locals h₄ ∧ s'.heap.UpToSlots h₄) hfr hf hfl1 fun h₄ u1 u2 => ⟨h₄, rfl, u1, u2⟩)) (fun _ s₂ z2 => ?_) fun _ _ z => z
 obtain ⟨⟨h₄, rfl, held₄, sm₄⟩, hd4⟩ := z2
 refine wpAny_mono (KD.any KD.setFlight hd4 (wpAny_landsW (s := { s' with heap := h₄ }) (Q := fun _ s₂ => ∃ h₅, s₂ = { s' with heap := h₅ } ∧ Heap.FlyingW B (X.env :: X.outer) e cls a0 h₅ ∧ h₄.UpToSlots h₅) held₄ fun h₅ u1 u2 => ⟨h₅, rfl, u1, u2⟩)) (fun _ s₂ z2 => ?_) fun _ _ z => z
 obtain ⟨⟨h₅, rfl, fl₅, sm₅⟩, hd5⟩ := z2
 have I5 : Inv X pins σ H' { s' with heap := h₅ } := I.landed F hfl g1 g2 g3 fl₅.1 (sm₄.trans sm₅)
 obtain ⟨o5, c5, d5, nc5, he5, w5⟩ := obj fl₅ hd5 I5
 have LT : PySem.W.Looks (model X.prog X.w) h₅ (typeOf (.ref e)) cls := c5 ▸ (PySem.W.Looks.ld he5).andThen .now
 refine wpAny_handleBy_cons (codeAny_handlers_test (ld_glob (X := X.within e o5) (w5 I5) hy hm ?_ hdb)) (by intro z; cases z)
 refine (PySem.W.exm_one (M := model X.prog X.w) I5.kIn LT (hk cls d H' qE)).here ?_
 refine codeAny_handlers_suite_as (wpAny_mono (KD.any KD.setFlight hd5 (lands_againW (s := { s' with heap := h₅ }) (Q := fun _ s₂ => ∃ h₆, s₂ = { s' with heap := h₆ } ∧ Heap.FlyingW B (X.env :: X.outer) e cls a0 h₆ ∧ h₅.UpToSlots h₆) fl₅ fun h₆ u1 u2 => ⟨h₆, rfl, u1, u2⟩)) (fun _ s₂ z2 => ?_) fun _ _ z => z)
 obtain ⟨⟨h₆, rfl, fl₆, sm₆⟩, hd6⟩ := z2
 have I6 : Inv X pins σ H' { s' with heap := h₆ } := I.landed F hfl g1 g2 g3 fl₆.1 ((sm₄.trans sm₅).trans sm₆)
 obtain ⟨o6, c6, d6, nc6, he6, w6⟩ := obj fl₆ hd6 I6
 have I6' : Inv X [] (List.replicate X.N.length none) H' { s' with heap := h₆ } := (I6.pins_of (pins' := []) fun p z => nomatch z).weak (by rw [List.length_replicate]; exact I6.len.symm) fun j v z => by
  rw [List.getElem?_replicate] at z
  split at z <;> cases z
 refine store_ok (X := X.within e o6) (w6 I6') hN hi (.inl hn) (v := .ref e) rfl (fun s₇ I7 => ?_) (.inr hn)
 refine wpAny_mono (hS e o6 [] s₇ _ H' _ I7 (q e o6 cls d H' c6 d6 nc6 qE)) (fun f s₈ h8 => ?_) fun _ _ z => False.elim z
 have fin : ∀ {σ8 : St} {H8 : Hp}, Inv (X.within e o6) [] σ8 H8 s₈ → (∀ s9, Inv X [] (List.replicate X.N.length none) H8 s9 → SP X [] D f s9) → wpAny (model X.prog X.w) X.A (do bindName X.env n .none; unbindBehindTheSuite X.env n hp) (fun _ s₃ => SP X [] D f s₃) X.xe s₈ := fun {σ8 H8} I8 k => by
  obtain ⟨m, hm8, _⟩ := I8.loc
  exact wpAny_nameGoes hn hm8 (by rw [I.ok.kind]; rfl) fun h' m' hN' hs' => k _ (Inv.suiteOver (I.ok.hd hcalm) I8 hpn hN' hs')
 cases f with
 | next => obtain ⟨σ8, H8, I8, z⟩ := h8; exact False.elim z
 | brk => obtain ⟨σ8, H8, I8, z⟩ := h8; exact False.elim z
 | cont => obtain ⟨σ8, H8, I8, z⟩ := h8; exact False.elim z
 | ret u =>
  obtain ⟨v8, σ8, H8, I8, r8, z⟩ := h8
  exact fin I8 fun s9 I9 => ⟨v8, _, H8, I9, r8, by rw [hD]; exact z⟩
end
noncomputable def tFldE (K : PySem.W.Frag) (e : Addr) (oe : Obj) (ta : TE) (f : Str) : TE := fun σ H Q => ta σ H fun x H1 => ∃ C d fs v, x = .ref e ∧ oe.cls = .ref C ∧ oe.dict = some d ∧ PySem.W.notCls oe = true ∧ ExcA K C ∧ NoAttr K C f ∧ H1 d = some (xdO d fs) ∧ fs.lookup f = some v ∧ Q v H1
theorem pe_fldE {X : Cx} {e : Addr} {oe : Obj} {ex : Expr} {f : Str} {pos : Pos} {ta : TE} (he : PE (X.within e oe) ex ta) (hb : attributeBase ex f X.env (eval ex X.env) = eval ex X.env) : PE (X.within e oe) (.Attribute ex f pos) (tFldE X.K e oe ta f) := by
 intro pins s σ H Q I h
 refine attr_of hb (thn (he pins s σ H _ I h) fun u s1 ⟨x, H1, I1, rx, C, d, fs, v, hx, hc, hd, nc, c, n, hd1, l, q⟩ => ?_)
 subst hx
 obtain rfl : u = Value.ref e := rx
 have hp : s1.heap.get? e = some oe := (I1.pin (e, oe) (List.mem_append_left _ List.mem_cons_self)).1
 obtain ⟨mA, hn, r, wi⟩ := xdO_get (I1.hok _ _ hd1)
 obtain ⟨od, ho, hl⟩ := lookIn_ns hn
 obtain ⟨u, hu, ru⟩ := RelO.some_of (v := v) (o := mA f) (by rw [← l]; exact r f)
 have J : PySem.W.InstAt s1.heap e oe C (some od) := ⟨hp, hc, nc, by rw [hd]; exact ho⟩
 exact exc_attr I1.kIn c J (PySem.W.findObj_own c.hd n rfl (by rw [hl, hu])) (handed_of ru) ⟨v, H1, I1.tok _, ru, q⟩
section
variable {P : Program} {w : World} {K : PySem.W.Frag} {mg : Str → Option Value} {base : Heap}
theorem Fun.okD {x qual : Str} {st : Stmt} {f : Addr} {fd : FuncData} {N ps : List Str} {k : Nat} {sp : Sp} (F : Fun K x qual st f fd) (S : FnScope N ps (defScope st)) (len : ∀ vs H Q E, sp vs H Q E → vs.length = ps.length)
  (hbody : ∀ (cdv : Value) (A : Around) (outer : List Env) (s : Shared) (H : Hp) (vs : List V) (Q : VK) (E : XK), Room k (A.deeper (envOfC qual (defScope st) s.heap.objs.size f cdv)) → sp vs H Q E →
   ∃ t, PSs (cxOf (CXD P w) P w K mg base N qual (defScope st) f cdv A outer s H E) (defBody st) t ∧ t { nx := fun _ H' => Q .non H', rt := Q } (start N vs) H) : FnOk P w K mg base (CXD P w) (k + 1) f fd ps sp := by
 obtain ⟨oc, od, kV, doc, pm, an, cdv, ct, osl, rfl, lk, hcd⟩ := F.ex
 exact fn_of lk hcd S len fun A outer s H vs Q E hr hsp => hbody cdv A outer s H vs Q E hr hsp
end
end L2
namespace M03
open PySem L2 PyProof.Rows
noncomputable def top (i : Nat) : Stmt := PySem.Challenge.pw_meadshares_k03_laid_denied_joined.main.body.getD i (.Pass ⟨0, 0, 0, 0⟩)
noncomputable abbrev sNumber : Stmt := top 19
noncomputable abbrev sWithin : Stmt := top 20
noncomputable abbrev sTuple : Stmt := top 21
noncomputable abbrev sRising : Stmt := top 22
noncomputable abbrev sClaim : Stmt := top 28
noncomputable abbrev sClaims : Stmt := top 29
noncomputable abbrev sChkClaims : Stmt := top 31
noncomputable abbrev sIsHolder : Stmt := top 32
noncomputable abbrev sChkHolder : Stmt := top 33
structure Txt (mg : Str → Option Value) : Prop where
 isinstance : mg "isinstance" = none
 int : mg "int" = none
 bool : mg "bool" = none
 tuple : mg "tuple" = none
 len : mg "len" = none
 all : mg "all" = none
 any : mg "any" = none
 zip : mg "zip" = none
 range : mg "range" = none
 sum : mg "sum" = none
 list : mg "list" = none
 set : mg "set" = none
 repr : mg "repr" = none
 verr : mg "ValueError" = none
 sorted : mg "sorted" = none
 sorts : ∃ t, mg "MOST_SORTS" = some (.int 6 t)
 holders : ∃ t, mg "MOST_HOLDERS" = some (.int 4 t)
 rights : ∃ t, mg "MOST_RIGHTS" = some (.int 20 t)
 claims : ∃ t, mg "MOST_CLAIMS" = some (.int 12 t)
structure At (P : Program) (w : World) (K : PySem.W.Frag) (mg : Str → Option Value) (base : Heap) (k : Nat) (x : Str) (f : Addr) (fd : FuncData) (ps : List Str) (sp : Sp) : Prop where
 nm : mg x = some (.ref f)
 kp : PySem.W.keepIn K (.ref f) = true
 bd : L2.Binds K fd ps []
 ok : FnOk P w K mg base CX0 k f fd ps sp
noncomputable def spNumber : Sp := fun vs H Q _ => ∃ v, vs = [v] ∧ Kn H 1 v ∧ Q (.bl (isInt v)) H
noncomputable def spWithin : Sp := fun vs H Q _ => ∃ v lo hi, vs = [v, .int lo, .int hi] ∧ Kn H 1 v ∧ Q (.bl (numIn lo hi v)) H
noncomputable def tupIn (H : Hp) (lo hi : Int) (v : V) : Bool := match tupOf H v with | some xs => decide (lo ≤ xs.length) && decide ((xs.length : Int) ≤ hi) | none => false
noncomputable def spTuple : Sp := fun vs H Q _ => ∃ v lo hi, vs = [v, .int lo, .int hi] ∧ Kn H 1 v ∧ Q (.bl (tupIn H lo hi v)) H
section
variable {P : Program} {w : World} {K : PySem.W.Frag} {mg : Str → Option Value} {base : Heap}
theorem scNumber : FnScope ["thing"] ["thing"] (defScope sNumber) := ⟨rfl, rfl, rfl, by decide +kernel, rfl, by decide +kernel, by decide +kernel⟩
theorem ok_number {f : Addr} {fd : FuncData} (F : Fun K "is_number" "is_number" sNumber f fd) (T : Txt mg) : FnOk P w K mg base CX0 1 f fd ["thing"] spNumber := by
 refine F.ok scNumber (fun vs H Q E h => ?_) (fun cdv A outer s H vs Q E hr h => ?_)
 ·obtain ⟨v, rfl, _⟩ := h; rfl
 ·obtain ⟨v, rfl, k, q⟩ := h
  refine ⟨_, pss_one (ps_ret (pe_and (pe_callB call_isinst rfl T.isinstance boot_isinstance (pa_cons (pv 0) (pa_cons (pe_bltn (v := .ty "int") rfl T.int boot_int rfl) pa_nil)))
   (pe_one (pe_not (pe_callB call_isinst rfl T.isinstance boot_isinstance (pa_cons (pv 0) (pa_cons (pe_bltn (v := .ty "bool") rfl T.bool boot_bool rfl) pa_nil))))))), ?_⟩
  obtain ⟨t, ty, k1, k2, _⟩ := ty_of (K := K) k
  refine ⟨_, rfl, _, "int", t, _, rfl, ty, k1, _, rfl, iteB (fun e => ?_) fun e => ?_⟩
  ·refine ⟨_, rfl, _, "bool", t, _, rfl, ty, k2, _, rfl, ?_⟩
   have : (!isBl v) = isInt v := by cases v <;> first | rfl | cases e
   rw [this]; exact q
  ·have : isInt v = false := (Bool.or_eq_false_iff.mp e).1
   rw [this] at q; exact q
theorem scWithin : FnScope ["thing", "least", "most"] ["thing", "least", "most"] (defScope sWithin) := ⟨rfl, rfl, rfl, by decide +kernel, rfl, by decide +kernel, by decide +kernel⟩
theorem ok_within {f g : Addr} {fd gd : FuncData} (F : Fun K "is_number_within" "is_number_within" sWithin f fd) (T : Txt mg) (G : Fun K "is_number" "is_number" sNumber g gd) (b : Binds K gd ["thing"] []) (m : mg "is_number" = some (.ref g)) : FnOk P w K mg base CX0 2 f fd ["thing", "least", "most"] spWithin := by
 have GN : FnOk P w K mg base CX0 1 g gd ["thing"] spNumber := ok_number G T
 refine F.ok scWithin (fun vs H Q E h => ?_) (fun cdv A outer s H vs Q E hr h => ?_)
 ·obtain ⟨v, lo, hi, rfl, _⟩ := h; rfl
 ·obtain ⟨v, lo, hi, rfl, k, q⟩ := h
  refine ⟨_, pss_one (ps_ret (pe_and (pe_call GN hr rfl m G.kp b .nil pass0 (pa_cons (pv 0) pa_nil)) (pe_one (pe_chain op_le op_le (pv 1) (pv 0) (pv 2))))), ?_⟩
  refine ⟨_, rfl, v, rfl, k, _, rfl, iteB (fun e => ?_) fun e => ?_⟩
  ·cases v with
   | int i =>
    refine ⟨_, rfl, _, rfl, _, _, rfl, rfl, _, rfl, ite2d (fun h1 => ?_) fun h1 => ?_⟩
    ·refine ⟨_, rfl, _, _, rfl, rfl, ?_⟩
     have : numIn lo hi (.int i) = decide (i ≤ hi) := by simp [numIn, h1]
     rw [this] at q; exact q
    ·have : numIn lo hi (.int i) = false := by simp [numIn, h1]
     rw [this] at q; exact q
   | _ => cases e
  ·have : numIn lo hi v = false := by cases v <;> first | rfl | cases e
   rw [this] at q; exact q
theorem scTuple : FnScope ["thing", "least", "most"] ["thing", "least", "most"] (defScope sTuple) := ⟨rfl, rfl, rfl, by decide +kernel, rfl, by decide +kernel, by decide +kernel⟩
theorem ok_tuple {f : Addr} {fd : FuncData} (F : Fun K "is_tuple_within" "is_tuple_within" sTuple f fd) (T : Txt mg) : FnOk P w K mg base CX0 1 f fd ["thing", "least", "most"] spTuple := by
 refine F.ok scTuple (fun vs H Q E h => ?_) (fun cdv A outer s H vs Q E hr h => ?_)
 ·obtain ⟨v, lo, hi, rfl, _⟩ := h; rfl
 ·obtain ⟨v, lo, hi, rfl, k, q⟩ := h
  refine ⟨_, pss_one (ps_ret (pe_and (pe_callB call_isinst rfl T.isinstance boot_isinstance (pa_cons (pv 0) (pa_cons (pe_bltn (v := .ty "tuple") rfl T.tuple boot_tuple rfl) pa_nil)))
   (pe_one (pe_chain op_le op_le (pv 1) (pe_callB call_len_seq rfl T.len PySem.boot_len (pa_cons (pv 0) pa_nil)) (pv 2))))), ?_⟩
  obtain ⟨t, ty, _, _, k3⟩ := ty_of (K := K) k
  refine ⟨_, rfl, _, "tuple", t, _, rfl, ty, k3, _, rfl, iteB (fun e => ?_) fun e => ?_⟩
  ·obtain ⟨xs, ex⟩ := Option.isSome_iff_exists.mp e
   obtain ⟨a, rfl, ha⟩ := of_tupOf ex
   refine ⟨_, rfl, _, rfl, a, xs, rfl, .inr (SqT.of ha), _, _, rfl, rfl, _, rfl, ite2d (fun h1 => ?_) fun h1 => ?_⟩
   ·refine ⟨_, rfl, _, _, rfl, rfl, ?_⟩
    have : tupIn H lo hi (.ref a) = decide ((xs.length : Int) ≤ hi) := by simp [tupIn, ex, h1]
    rw [this] at q; exact q
   ·have : tupIn H lo hi (.ref a) = false := by simp [tupIn, ex, h1]
    rw [this] at q; exact q
  ·have : tupIn H lo hi v = false := by
    unfold tupIn
    cases z : tupOf H v with
    | none => rfl
    | some xs => rw [z] at e; cases e
   rw [this] at q; exact q
end
end M03
namespace L2
open PySem PySem.Spec PyProof.Rows
section
variable {X : Cx}
theorem call_sumK (hc : X.calm = true) : CallR X (.builtin "sum") (fun xs H Q => ∃ (p : Addr) (ns : List Int), xs = [.ref p] ∧ SqL X.K H p (ns.map V.int) ∧ ns.length ≤ 1000 ∧ (∀ n ∈ ns, -10000 ≤ n ∧ n ≤ 10000) ∧ Q (.int ns.sum) H) := by
 intro pins s σ H xs us Q I r h
 obtain ⟨p, ns, rfl, hq, hl, hn, q⟩ := h
 obtain ⟨u, rfl, rx⟩ := vals1 r
 cases rx
 obtain ⟨its, rv, pl, hz⟩ := I.list hq
 have hlen := rv.length
 rw [List.length_map] at hlen
 have hlt : p < s.heap.objs.size := by obtain ⟨_, e, _⟩ := pl.isList; exact Heap.lt_size e
 have long : ∀ z : Int, -10000000 ≤ z → z ≤ 10000000 → InLong z := fun z h1 h2 => by unfold InLong; omega
 refine call_sum_walk (wpAny_pyIter_list pl.isList ?_)
 refine ⟨s.heap.objs.size, [s.heap.objs.size, p], [s.heap.objs.size], its.toArray.size, _, _, fun i => (ns[i]?).getD 0, rfl, Walks.list (A := X.A.in1) (by simp [I.ok.hd hc]) _ p (Nat.ne_of_lt hlt) its.toArray, ⟨⟨_, Heap.get?_push_size _ rfl, rfl, rfl⟩, pl.isList.push _⟩, fun b hb => ?_, fun i v hP => ?_, fun j hj => ?_, fun h' tk t' hk => ?_⟩
 ·show b < (s.heap.push _).objs.size
  rw [Heap.size_push]
  rcases List.mem_cons.mp hb with z | z
  ·rw [z]; exact Nat.lt_succ_self _
  ·rw [List.mem_singleton.mp z]; exact Nat.lt_succ_of_lt hlt
 ·have hP' : its[i]? = some v := by simpa using hP
  have hi : i < ns.length := by rw [hlen]; exact (List.getElem?_eq_some_iff.mp hP').1
  obtain ⟨u, hu, ru⟩ := rv.get (i := i) (x := .int ns[i]) (by rw [List.getElem?_map]; simp [hi])
  rw [hP'] at hu; cases hu
  obtain ⟨t, rfl⟩ := ru
  exact ⟨t, by simp [hi]⟩
 ·have hj' : j < ns.length := by rw [List.size_toArray] at hj; omega
  refine ⟨?_, ?_⟩
  ·have := hn ns[j] (List.getElem_mem hj')
   have e : (ns[j]?).getD 0 = ns[j] := by simp [hj']
   show InLong ((ns[j]?).getD 0)
   rw [e]; exact long _ (by omega) (by omega)
  ·rw [preSum_take]
   have := sum_small (B := 10000) (by decide) (ns := ns.take (j + 1)) fun n h => hn n (List.mem_of_mem_take h)
   have h2 : (ns.take (j + 1)).length ≤ 1000 := by rw [List.length_take]; omega
   exact long _ (by omega) (by omega)
 ·have e : preSum (fun i => (ns[i]?).getD 0) its.toArray.size = ns.sum := by
   rw [preSum_take, List.size_toArray, ← hlen, List.take_of_length_le (Nat.le_refl _)]
  rw [e]
  exact ⟨.int _, H, I.kept (h' := h') (t' := tk) (LSm.kept_iter hk), ⟨_, rfl⟩, q⟩
end
end L2
namespace M03
open PySem L2 PyProof.Rows
noncomputable def spRising : Sp := fun vs H Q _ => ∃ l ps prs, vs = [.ref l] ∧ H l = some (.lst (ps.map V.ref)) ∧ PlAt H ps prs ∧ 1 ≤ prs.length ∧ prs.length ≤ 100 ∧ (prs.Pairwise fun a b => lt2 a b = true) ∧ ∀ H', Same H H' → Q (.bl true) H'
noncomputable def spClaim : Sp := fun vs H Q _ => ∃ (b : Addr) (c : C3), vs = [.ref b] ∧ H b = some (.tup [.int c.1, .int c.2.1, .int c.2.2]) ∧ ((0 ≤ c.1 ∧ c.1 ≤ 3) ∧ (0 ≤ c.2.1 ∧ c.2.1 ≤ 5) ∧ 1 ≤ c.2.2 ∧ c.2.2 ≤ 20) ∧ Q (.bl true) H
noncomputable def spClaims : Sp := fun vs H Q _ => ∃ a cl, vs = [.ref a] ∧ ClT H a cl ∧ ClOk cl ∧ ∀ H', Same H H' → Q (.bl true) H'
noncomputable def spChkClaims : Sp := fun vs H Q _ => ∃ a cl, vs = [.ref a] ∧ ClT H a cl ∧ ClOk cl ∧ ∀ H', Same H H' → Q .non H'
section
variable {P : Program} {w : World} {K : PySem.W.Frag} {mg : Str → Option Value} {base : Heap}
theorem cutRef (ps : List Addr) (h : 1 ≤ ps.length) : cutV (ps.map V.ref) (some 1) none = (ps.drop 1).map V.ref := by
 have e1 : HT.sIx (ps.map V.ref).length 0 (some 1) = min 1 (ps.map V.ref).length := HT.sIx_nat _ _ 1
 have e2 : HT.sIx (ps.map V.ref).length (ps.map V.ref).length none = (ps.map V.ref).length := rfl
 unfold cutV
 rw [e1, e2, List.length_map, show min 1 ps.length = 1 by omega, List.take_of_length_le (by rw [List.length_drop, List.length_map]; omega), List.map_drop]
theorem PlAt.get2 {H : Hp} : ∀ {ps : List Addr} {cs : List (Int × Int)} {i : Nat} {p : Addr}, PlAt H ps cs → ps[i]? = some p → ∃ c, cs[i]? = some c ∧ H p = some (.tup [.int c.1, .int c.2])
 | _, _, 0, _, .cons r _, h => by cases h; exact ⟨_, rfl, r⟩
 | _, _, i + 1, _, .cons _ t, h => PlAt.get2 (i := i) t (by simpa using h)
theorem scRising : FnScope ["things"] ["things"] (defScope sRising) := ⟨rfl, rfl, rfl, by decide +kernel, rfl, by decide +kernel, by decide +kernel⟩
theorem ndRO : (["one", "other"] : List Str).Nodup := by decide +kernel
theorem ok_rising {f : Addr} {fd : FuncData} (F : Fun K "is_rising" "is_rising" sRising f fd) (T : Txt mg) : FnOk P w K mg base CX0 1 f fd ["things"] spRising := by
 refine F.ok scRising (fun vs H Q E h => ?_) (fun cdv A outer s H vs Q E hr h => ?_)
 ·obtain ⟨l, ps, prs, rfl, _⟩ := h; rfl
 ·obtain ⟨l, ps, prs, rfl, hl, hP, h1, h100, hup, q⟩ := h
  have hlen : ps.length = prs.length := Paired.length hP
  refine ⟨_, pss_one (ps_ret (pe_callB (call_all rfl) rfl T.all boot_all (pa_lc (pe_comp1 (defScope sRising).names ["things"] ["one", "other"] [] rfl (pi_zip2 kL_ok rfl T.zip (pa_v (pv 0) (pa_s (pe_slice sl_list (pv 0) (po_some pe_int) po_none) pa_nil))) rfl rfl rfl (by decide +kernel)
   (fun Z => pg_tup rfl (pgs_cons (pg_name (i := 0) ndRO rfl (Or.inl rfl)) (pgs_cons (pg_name (i := 1) ndRO rfl (Or.inl rfl)) pgs_nil))) (fun Z => pts_nil) (fun Z => pe_cmpR (op_ltT (Nat.lt_of_succ_lt (hu_of hr))) (pv 0) (pv 1) (nomark _))) pa_nil))), ?_⟩
  refine ⟨_, rfl, _, rfl, _, rfl, l, _, rfl, SqL.of hl, fun t ht => ?_⟩
  rw [cutRef ps (by omega)]
  have s1 := same_upd (o := .lst ((ps.drop 1).map V.ref)) ht
  refine ⟨l, t, ps.map V.ref, (ps.drop 1).map V.ref, rfl, SqL.of (s1 _ _ hl), SqL.of upd_same, fun Z r hr' => ?_⟩
  have sH : Same H (upd H t (.lst ((ps.drop 1).map V.ref))) := s1
  refine for_zip2 (xs := ps.map V.ref) (ys := (ps.drop 1).map V.ref) (by rw [List.length_map, List.length_map, List.length_drop]; omega) (fun i σ H' => σ.length = 2 ∧ Same (upd H t (.lst ((ps.drop 1).map V.ref))) H' ∧ H' r = some (.lst (((ps.drop 1).take i).map fun _ => V.bl true))) ⟨rfl, same_upd hr', by rw [upd_same]; rfl⟩
   (fun i σ H' h => ⟨SqL.of (h.2.1 _ _ (s1 _ _ hl)), SqL.of (h.2.1 _ _ upd_same)⟩) ?_ ?_
  ·rintro i x y p3 σ H' hx hy ⟨hσ, hs, hl'⟩ hp3
   match σ, hσ with
   | [x0, x1], _ =>
   rw [List.getElem?_map] at hx hy
   cases hb : ps[i]? with
   | none => rw [hb] at hx; cases hx
   | some b =>
   cases hb2 : (ps.drop 1)[i]? with
   | none => rw [hb2] at hy; cases hy
   | some b2 =>
   rw [hb] at hx; cases hx
   rw [hb2] at hy; cases hy
   have hb2' : ps[i + 1]? = some b2 := by rw [List.getElem?_drop] at hb2; rw [show i + 1 = 1 + i by omega]; exact hb2
   obtain ⟨c, hc, he⟩ := PlAt.get2 hP hb
   obtain ⟨c2, hc2, he2⟩ := PlAt.get2 hP hb2'
   have s3 := same_upd (o := .tup [.ref b, .ref b2]) hp3
   refine ⟨p3, _, rfl, SqT.of upd_same, rfl, _, _, rfl, _, _, rfl, rfl, ?_⟩
   refine body_all ?_
   refine ⟨_, rfl, _, rfl, b, b2, [c.1, c.2], [c2.1, c2.2], rfl, rfl, SqT.of (s3 _ _ (hs _ _ (s1 _ _ he))), SqT.of (s3 _ _ (hs _ _ (s1 _ _ he2))), ?_⟩
   have hlt : HT.lexLt [c.1, c.2] [c2.1, c2.2] = true := by
    obtain ⟨g1, e1⟩ := List.getElem?_eq_some_iff.mp hc
    obtain ⟨g2, e2⟩ := List.getElem?_eq_some_iff.mp hc2
    have := List.pairwise_iff_getElem.mp hup i (i + 1) g1 g2 (by omega)
    rw [e1, e2] at this
    exact this
   rw [hlt]
   have hi : i < (ps.drop 1).length := (List.getElem?_eq_some_iff.mp hb2).1
   rw [List.length_drop] at hi
   refine ⟨_, s3 _ _ hl', small1000 (by rw [List.length_map, List.length_take]; omega), rfl, fun b' u e' => ?_, ?_⟩
   ·rw [upd_ne (ne_of_none e' hr')]; exact s3 _ _ (hs _ _ e')
   ·rw [upd_same, List.take_succ, hb2, List.map_append]; rfl
  ·rintro σ H' ⟨_, hs, hl'⟩
   rw [List.length_map, List.take_of_length_le (Nat.le_refl _)] at hl'
   refine ⟨r, (ps.drop 1).map fun _ => true, rfl, SqL.of (by rw [hl', List.map_map]; rfl), ?_⟩
   rw [show ((ps.drop 1).map fun _ => true).all id = true by rw [List.all_map]; exact List.all_eq_true.mpr fun _ _ => rfl]
   exact q H' (s1.trans hs)
theorem scClaim : FnScope ["thing", "holder", "sort", "many"] ["thing"] (defScope sClaim) := ⟨rfl, rfl, rfl, by decide +kernel, rfl, by decide +kernel, by decide +kernel⟩
theorem numIn_of {lo hi i : Int} (h1 : lo ≤ i) (h2 : i ≤ hi) : numIn lo hi (.int i) = true := by simp [numIn, h1, h2]
theorem ok_claim {f g1 g2 : Addr} {fd d1 d2 : FuncData} (F : Fun K "is_claim" "is_claim" sClaim f fd) (T : Txt mg) (a1 : At P w K mg base 1 "is_tuple_within" g1 d1 ["thing", "least", "most"] spTuple) (a2 : At P w K mg base 2 "is_number_within" g2 d2 ["thing", "least", "most"] spWithin) : FnOk P w K mg base CX0 3 f fd ["thing"] spClaim := by
 obtain ⟨t1, mS⟩ := T.sorts
 obtain ⟨t2, mH⟩ := T.holders
 obtain ⟨t3, mR⟩ := T.rights
 refine F.ok scClaim (fun vs H Q E h => ?_) (fun cdv A outer s H vs Q E hr h => ?_)
 ·obtain ⟨b, c, rfl, _⟩ := h; rfl
 ·obtain ⟨b, c, rfl, hb, ⟨n1, n2, n3⟩, q⟩ := h
  have nd := scClaim.nd
  have kn : Kn H 1 (.ref b) := .inr (.inr ⟨_, hb, by show 3 ≤ 1000; decide, fun x _ => True.intro⟩)
  refine ⟨_, pss_cons (ps_if (pt_not (pt_val (pe_call a1.ok (hr.mono (by decide)) rfl a1.nm a1.kp a1.bd .nil pass0 (pa_cons (pv 0) (pa_cons pe_int (pa_cons pe_int pa_nil)))))) pss_never pss_nil) <|
   pss_cons (ps_asg (pv 0) (pg_tup rfl (pgs_cons (pg_name (i := 1) nd rfl (Or.inl rfl)) (pgs_cons (pg_name (i := 2) nd rfl (Or.inl rfl)) (pgs_cons (pg_name (i := 3) nd rfl (Or.inl rfl)) pgs_nil))))) <|
   pss_cons (ps_if (PW.pt (pw_or (pt_not (pt_val (pe_call a2.ok hr rfl a2.nm a2.kp a2.bd .nil pass0 (pa_cons (pv 1) (pa_cons pe_int (pa_cons (pe_op op_sub (pe_glob (v := .int 4) rfl mH ⟨_, rfl⟩) pe_int) pa_nil))))))
    (pw_or1 (pt_not (pt_val (pe_call a2.ok hr rfl a2.nm a2.kp a2.bd .nil pass0 (pa_cons (pv 2) (pa_cons pe_int (pa_cons (pe_op op_sub (pe_glob (v := .int 6) rfl mS ⟨_, rfl⟩) pe_int) pa_nil))))))))) pss_never pss_nil) <|
   pss_one (ps_ret (pe_call a2.ok hr rfl a2.nm a2.kp a2.bd .nil pass0 (pa_cons (pv 3) (pa_cons pe_int (pa_cons (pe_glob (v := .int 20) rfl mR ⟨_, rfl⟩) pa_nil))))), ?_⟩
  refine ⟨_, rfl, _, 3, 3, rfl, kn, _, rfl, ?_⟩
  have ht : tupIn H 3 3 (.ref b) = true := by unfold tupIn; rw [tupOf_of hb]; rfl
  rw [ht]
  refine iteF ?_
  refine ⟨_, rfl, b, _, rfl, SqT.of hb, rfl, _, _, rfl, _, _, rfl, _, _, rfl, rfl, ?_⟩
  refine ⟨_, rfl, _, _, rfl, rfl, _, 0, 3, rfl, KnA.int _ 1, _, rfl, ?_⟩
  rw [numIn_of n1.1 n1.2]
  refine iteF ?_
  refine ⟨_, rfl, _, _, rfl, rfl, _, 0, 5, rfl, KnA.int _ 1, _, rfl, ?_⟩
  rw [numIn_of n2.1 n2.2]
  refine iteF ?_
  refine ⟨_, rfl, _, 1, 20, rfl, KnA.int _ 1, ?_⟩
  rw [numIn_of n3.1 n3.2]
  exact q
end
end M03
namespace M03
open PySem L2 PyProof.Rows
noncomputable def hasH (cl : List C3) (i : Int) : Bool := cl.any fun c => decide (c.1 = i)
noncomputable def spIsHolder : Sp := fun vs H Q _ => ∃ a cl i, vs = [.ref a, .int i] ∧ ClT H a cl ∧ cl.length ≤ 12 ∧ ∀ H', Same H H' → Q (.bl (hasH cl i)) H'
theorem ClT.kn {H : Hp} {a : Addr} {cl : List C3} (h : ClT H a cl) (hz : cl.length ≤ 12) (n : Nat) : Kn H n (.ref a) := by
 obtain ⟨bs, h1, h2⟩ := h
 have hl : bs.length = cl.length := Paired.length h2
 refine KnA.tup h1 (by rw [List.length_map]; omega) (fun x hx => ?_) n
 obtain ⟨b, hb, rfl⟩ := List.mem_map.mp hx
 obtain ⟨i, hi⟩ := List.getElem?_of_mem hb
 obtain ⟨c, hc, he⟩ := h2.get hi
 refine KnA.tup he (by show 3 ≤ 1000; decide) fun y hy => ?_
 simp only [List.mem_cons, List.not_mem_nil, or_false] at hy
 rcases hy with rfl | rfl | rfl <;> exact KnA.int _
section
variable {P : Program} {w : World} {K : PySem.W.Frag} {mg : Str → Option Value} {base : Heap}
theorem nd3 : (["holder", "sort", "many"] : List Str).Nodup := by decide +kernel
theorem scClaims : FnScope ["thing"] ["thing"] (defScope sClaims) := ⟨rfl, rfl, rfl, by decide +kernel, rfl, by decide +kernel, by decide +kernel⟩
theorem ok_claims {f g1 g2 g3 : Addr} {fd d1 d2 d3 : FuncData} (F : Fun K "are_claims" "are_claims" sClaims f fd) (T : Txt mg) (a1 : At P w K mg base 1 "is_tuple_within" g1 d1 ["thing", "least", "most"] spTuple) (a2 : At P w K mg base 3 "is_claim" g2 d2 ["thing"] spClaim) (a3 : At P w K mg base 1 "is_rising" g3 d3 ["things"] spRising) : FnOk P w K mg base CX0 4 f fd ["thing"] spClaims := by
 obtain ⟨t1, mC⟩ := T.claims
 refine F.ok scClaims (fun vs H Q E h => ?_) (fun cdv A outer s H vs Q E hr h => ?_)
 ·obtain ⟨a, cl, rfl, _⟩ := h; rfl
 ·obtain ⟨a, cl, rfl, hA, G, q⟩ := h
  have kn := ClT.kn hA G.l12 1
  obtain ⟨bs, ha, hC⟩ := hA
  have hl : bs.length = cl.length := Paired.length hC
  have hz : (bs.map V.ref).length ≤ 1000 := by rw [List.length_map]; have := G.l12; omega
  refine ⟨_, pss_cons (ps_if (PW.pt (pw_or (pt_not (pt_val (pe_call a1.ok (hr.mono (by decide)) rfl a1.nm a1.kp a1.bd .nil pass0 (pa_cons (pv 0) (pa_cons pe_int (pa_cons (pe_glob (v := .int 12) rfl mC ⟨_, rfl⟩) pa_nil))))))
    (pw_or1 (pt_not (pt_val (pe_callB (call_all rfl) rfl T.all boot_all (pa_cons (pe_comp1 (defScope sClaims).names ["thing"] ["claim"] [] rfl (pi_tup (pv 0)) rfl rfl rfl (by decide +kernel)
     (fun Z => pg_name (i := 0) (show (["claim"] : List Str).Nodup by decide +kernel) rfl (Or.inl rfl)) (fun Z => pts_nil) (fun Z => pe_call a2.ok hr rfl a2.nm a2.kp a2.bd .nil pass0 (pa_cons (pv 0) pa_nil))) pa_nil))))))) pss_never pss_nil) <|
   pss_one (ps_ret (pe_call a3.ok (hr.mono (by decide)) rfl a3.nm a3.kp a3.bd .nil pass0 (pa_lc (pe_comp1 (defScope sClaims).names ["thing"] ["holder", "sort", "many"] [] rfl (pi_tup (pv 0)) rfl rfl rfl (by decide +kernel)
     (fun Z => pg_tup rfl (pgs_cons (pg_name (i := 0) nd3 rfl (Or.inl rfl)) (pgs_cons (pg_name (i := 1) nd3 rfl (Or.inl rfl)) (pgs_cons (pg_name (i := 2) nd3 rfl (Or.inl rfl)) pgs_nil)))) (fun Z => pts_nil) (fun Z => pe_tup (pa_cons (pv 0) (pa_cons (pv 1) pa_nil)))) pa_nil))), ?_⟩
  refine ⟨_, rfl, _, 1, 12, rfl, kn, _, rfl, ?_⟩
  have ht : tupIn H 1 12 (.ref a) = true := by
   unfold tupIn; rw [tupOf_of ha]
   have h1 := G.l1; have h6 := G.l12
   simp only [List.length_map, Bool.and_eq_true, decide_eq_true_eq]; omega
  rw [ht]
  refine iteF ?_
  refine ⟨_, rfl, a, rfl, ⟨_, SqT.of ha⟩, fun Z l hl' => ?_⟩
  refine comp_map (fun _ => .bl true) ha hl' hz (fun x H' Q' hm hs hq => ?_) fun σ H1 hs1 hl1 => ?_
  ·obtain ⟨b, hb, rfl⟩ := List.mem_map.mp hm
   obtain ⟨i, hi⟩ := List.getElem?_of_mem hb
   obtain ⟨c, hc, he⟩ := hC.get hi
   exact ⟨_, rfl, b, c, rfl, hs _ _ he, G.num c (List.mem_of_getElem? hc), hq _ (Same.refl _)⟩
  ·refine ⟨l, (bs.map V.ref).map fun _ => true, rfl, SqL.of (by rw [hl1]; simp only [List.map_map]; rfl), _, rfl, ?_⟩
   rw [show ((bs.map V.ref).map fun _ => true).all id = true by rw [List.all_map]; exact List.all_eq_true.mpr fun _ _ => rfl]
   refine iteF ?_
   refine ⟨_, rfl, a, rfl, ⟨_, SqT.of (hs1 _ _ ha)⟩, fun Z2 l2 hl2 => ?_⟩
   refine comp_key wk_tup (fun H' hs => SqT.of (hs _ _ (hs1 _ _ ha))) (hC.ext hs1.ext) hl2 (by have := G.l12; omega) fun σ H2 ps hs2 hl2' hP => ?_
   have hpl := Paired.length hP
   rw [List.length_map] at hpl
   refine ⟨l2, ps, _, rfl, hl2', hP, by rw [List.length_map]; exact G.l1, by rw [List.length_map]; have := G.l12; omega, G.up, fun H3 hs3 => q H3 ((hs1.trans hs2).trans hs3)⟩
theorem scChkClaims : FnScope ["claims"] ["claims"] (defScope sChkClaims) := ⟨rfl, rfl, rfl, by decide +kernel, rfl, by decide +kernel, by decide +kernel⟩
theorem ok_chkClaims {f g1 : Addr} {fd d1 : FuncData} (F : Fun K "check_claims" "check_claims" sChkClaims f fd) (a1 : At P w K mg base 4 "are_claims" g1 d1 ["thing"] spClaims) : FnOk P w K mg base CX0 5 f fd ["claims"] spChkClaims := by
 refine F.ok scChkClaims (fun vs H Q E h => ?_) (fun cdv A outer s H vs Q E hr h => ?_)
 ·obtain ⟨a, cl, rfl, _⟩ := h; rfl
 ·obtain ⟨a, cl, rfl, hA, G, q⟩ := h
  refine ⟨_, pss_one (ps_if (pt_not (pt_val (pe_call a1.ok hr rfl a1.nm a1.kp a1.bd .nil pass0 (pa_v (pv 0) pa_nil)))) pss_never pss_nil), ?_⟩
  exact ⟨_, rfl, a, cl, rfl, hA, G, fun H' hs => ⟨_, rfl, iteF (q H' hs)⟩⟩
theorem scIsHolder : FnScope ["claims", "thing"] ["claims", "thing"] (defScope sIsHolder) := ⟨rfl, rfl, rfl, by decide +kernel, rfl, by decide +kernel, by decide +kernel⟩
theorem nd4t : (["holder", "sort", "many", "thing"] : List Str).Nodup := by decide +kernel
theorem ok_isHolder {f g1 : Addr} {fd d1 : FuncData} (F : Fun K "is_holder" "is_holder" sIsHolder f fd) (T : Txt mg) (a1 : At P w K mg base 1 "is_number" g1 d1 ["thing"] spNumber) : FnOk P w K mg base CX0 2 f fd ["claims", "thing"] spIsHolder := by
 refine F.ok scIsHolder (fun vs H Q E h => ?_) (fun cdv A outer s H vs Q E hr h => ?_)
 ·obtain ⟨a, cl, i, rfl, _⟩ := h; rfl
 ·obtain ⟨a, cl, i, rfl, ⟨bs, ha, hC⟩, h12, q⟩ := h
  have hl : bs.length = cl.length := Paired.length hC
  refine ⟨_, pss_one (ps_ret (pe_and (pe_call a1.ok hr rfl a1.nm a1.kp a1.bd .nil pass0 (pa_cons (pv 1) pa_nil)) (pe_one (pe_callB (call_any rfl) rfl T.any boot_any (pa_lc (pe_comp1 (defScope sIsHolder).names ["claims", "thing"] ["holder", "sort", "many"] [("thing", 1)] rfl (pi_tup (pv 0)) rfl rfl rfl (by decide +kernel)
   (fun Z => pg_tup rfl (pgs_cons (pg_name (i := 0) nd4t rfl (Or.inl rfl)) (pgs_cons (pg_name (i := 1) nd4t rfl (Or.inl rfl)) (pgs_cons (pg_name (i := 2) nd4t rfl (Or.inl rfl)) pgs_nil)))) (fun Z => pts_nil)
   (fun Z => pe_cmpR op_eq (pv 0) (pv 3) (nomark _))) pa_nil))))), ?_⟩
  refine ⟨_, rfl, _, rfl, KnA.int i 1, _, rfl, iteT ?_⟩
  refine ⟨_, rfl, a, rfl, ⟨_, SqT.of ha⟩, fun Z l hl' => ?_⟩
  refine comp_cl (rest := [some (.int i)]) wk_tup (fun H' hs => SqT.of (hs _ _ ha)) hC hl' (by omega) (fun c => .bl (decide (c.1 = i))) (fun x H' Q' hm hs hq => ?_) fun σ H1 hs1 hl1 => ?_
  ·refine ⟨_, rfl, _, rfl, rfl, ?_⟩
   have : decide (V.int x.1 = V.int i) = decide (x.1 = i) := decide_eq_decide.mpr ⟨fun z => V.int.inj z, fun z => by rw [z]⟩
   rw [this]
   exact hq _ (Same.refl _)
  ·refine ⟨l, cl.map fun c => decide (c.1 = i), rfl, SqL.of (by rw [hl1]; simp only [List.map_map]; rfl), ?_⟩
   have : (cl.map fun c => decide (c.1 = i)).any id = hasH cl i := by unfold hasH; rw [List.any_map]; rfl
   rw [this]
   exact q _ hs1
end
end M03
namespace L2
open PySem PySem.Spec PyProof.Rows
theorem comp_clN {J : It} {S : Hp → Prop} {l : Addr} {bs : List Addr} {cl : List C3} {tt : TT} {H0 : Hp} {rest : St} {Q : St → Hp → Prop} (p : C3 → Bool) (W : Wk J (bs.map V.ref) S) (hS : ∀ H', Same H0 H' → S H') (hC : ClP H0 bs cl) (hl : H0 l = none) (hz : bs.length ≤ 1000)
  (tst : ∀ b c H' Q', H' b = some (.tup [.int c.1, .int c.2.1, .int c.2.2]) → Same H0 H' → (∀ H2, Same H' H2 → Q' (p c) H2) → tt (some (.ref b) :: rest) H' Q')
  (hQ : ∀ σ H' bs', Same H0 H' → H' l = some (.lst ((bs' : List Addr).map V.ref)) → ClP H' bs' (cl.filter p) → Q σ H') :
  tForJ J (gName 0) (tBodyC tt (tEmit l (tVar 0))) (eC Q) (none :: rest) (upd H0 l (.lst [])) := by
 have hlen : bs.length = cl.length := Paired.length hC
 refine W (fun i σ H' => (∃ x, σ = x :: rest) ∧ Same H0 H' ∧ ∃ bs' : List Addr, H' l = some (.lst (bs'.map V.ref)) ∧ ClP H' bs' ((cl.take i).filter p)) ⟨⟨_, rfl⟩, same_upd hl, [], by rw [upd_same]; rfl, .nil⟩ (fun i σ H' _ h => hS _ h.2.1) ?_ ?_
 ·rintro i x σ H' hx ⟨⟨x0, rfl⟩, hs, bs', hl', hP⟩
  rw [List.getElem?_map] at hx
  cases hb : bs[i]? with
  | none => rw [hb] at hx; cases hx
  | some b =>
   rw [hb] at hx; cases hx
   obtain ⟨c, hc, he⟩ := hC.get hb
   have hi : i < bs.length := (List.getElem?_eq_some_iff.mp hb).1
   have et : (cl.take (i + 1)).filter p = (cl.take i).filter p ++ (if p c = true then [c] else []) := by
    rw [List.take_succ, hc, List.filter_append]
    congr 1
    by_cases z : p c = true
    ·simp [z]
    ·simp [z]
   have hfl := List.length_filter_le p (cl.take i)
   rw [List.length_take] at hfl
   have hbl := Paired.length hP
   refine tst b c H' _ (hs _ _ he) hs fun H2 h2 => ?_
   have hl2 := h2 _ _ hl'
   refine iteB (fun hz' => ?_) fun hz' => ?_
   ·refine ⟨_, rfl, _, hl2, small1000 (by rw [List.length_map]; omega), ⟨_, rfl⟩, fun b2 u e => ?_, bs' ++ [b], ?_, ?_⟩
    ·rw [upd_ne (ne_of_none e hl)]; exact h2 _ _ (hs _ _ e)
    ·rw [upd_same, List.map_append]; rfl
    ·rw [et, if_pos hz']
     have up : ∀ b2 xs, H2 b2 = some (.tup xs) → (upd H2 l (.lst (bs'.map V.ref ++ [.ref b]))) b2 = some (.tup xs) := fun b2 xs e => by rw [upd_ne (fun z => by rw [z, hl2] at e; cases e)]; exact e
     exact Paired.snoc (Paired.mapP hP fun _ _ e => up _ _ (h2 _ _ e)) (up _ _ (h2 _ _ (hs _ _ he)))
   ·refine ⟨⟨_, rfl⟩, hs.trans h2, bs', hl2, ?_⟩
    rw [et, if_neg (by rw [hz']; decide), List.append_nil]
    exact Paired.mapP hP fun _ _ e => h2 _ _ e
 ·rintro σ H' ⟨_, hs, bs', hl', hP⟩
  rw [List.length_map, hlen, List.take_of_length_le (Nat.le_refl _)] at hP
  exact hQ σ H' bs' hs hl' hP
end L2
namespace M03
open PySem L2 PyProof.Rows
noncomputable abbrev sCell : Stmt := top 40
noncomputable abbrev sPen : Stmt := top 41
noncomputable abbrev sDraw : Stmt := top 42
noncomputable abbrev sPick : Stmt := top 43
noncomputable def spCell (K : PySem.W.Frag) : Sp := fun vs H Q _ => ∃ a ns k, vs = [.ref a, .int k] ∧ SqL K H a ((ns : List Int).map V.int) ∧ 0 ≤ k ∧ ∀ i, Q (.int i) H
noncomputable def spPen : Sp := fun vs H Q _ => ∃ i : Int, vs = [.int i] ∧ ∀ p H', H p = none → Same H H' → PenAt H' p → Q (.ref p) H'
noncomputable def spDraw : Sp := fun vs H Q _ => ∃ p m, vs = [.ref p, .int m] ∧ PenAt H p ∧ 0 < m ∧ m < 1000000 ∧ ∀ d H', 0 ≤ d → d < m → Stp p H H' → Q (.int d) H'
section
variable {P : Program} {w : World} {K : PySem.W.Frag} {mg : Str → Option Value} {base : Heap}
theorem scCell : FnScope ["_law_script", "_law_k"] ["_law_script", "_law_k"] (defScope sCell) := ⟨rfl, rfl, rfl, by decide +kernel, rfl, by decide +kernel, by decide +kernel⟩
theorem ok_cell {f : Addr} {fd : FuncData} (F : Fun K "_law_cell" "_law_cell" sCell f fd) (T : Txt mg) : FnOk P w K mg base CX0 1 f fd ["_law_script", "_law_k"] (spCell K) := by
 refine F.ok scCell (fun vs H Q E h => ?_) (fun cdv A outer s H vs Q E hr h => ?_)
 ·obtain ⟨a, ns, k, rfl, _⟩ := h; rfl
 ·obtain ⟨a, ns, k, rfl, ha, hk, q⟩ := h
  refine ⟨_, pss_cons (ps_if (pt_cmpR op_lt (pv 1) (pe_callB call_len_seq rfl T.len PySem.boot_len (pa_cons (pv 0) pa_nil)) (nomark _)) (pss_one (ps_ret (pe_ix ix_list (pv 0) (pv 1) (fun _ _ => rfl)))) pss_nil) (pss_one (ps_ret pe_int)), ?_⟩
  refine ⟨_, rfl, _, rfl, a, _, rfl, .inl ha, _, _, rfl, rfl, _, rfl, ite2d (fun h1 => ?_) fun h1 => q 0⟩
  rw [List.length_map] at h1
  obtain ⟨n, rfl⟩ := Int.eq_ofNat_of_zero_le hk
  have hlt : n < ns.length := by omega
  exact ⟨_, rfl, _, rfl, a, _, n, .int ns[n], rfl, rfl, ha, atI_nat (by rw [List.getElem?_map]; simp [hlt]), q _⟩
theorem scPen : FnScope ["_law_cell_here"] ["_law_cell_here"] (defScope sPen) := ⟨rfl, rfl, rfl, by decide +kernel, rfl, by decide +kernel, by decide +kernel⟩
theorem ok_pen {f : Addr} {fd : FuncData} (F : Fun K "_law_pen" "_law_pen" sPen f fd) (T : Txt mg) : FnOk P w K mg base CX0 1 f fd ["_law_cell_here"] spPen := by
 refine F.ok scPen (fun vs H Q E h => ?_) (fun cdv A outer s H vs Q E hr h => ?_)
 ·obtain ⟨i, rfl, _⟩ := h; rfl
 ·obtain ⟨i, rfl, q⟩ := h
  refine ⟨_, pss_one (ps_ret (pe_lst (pa_cons (pv 0) (pa_cons (pe_callTy call_int1 rfl T.int boot_int (pa_cons (pe_cmpR op_ge (pv 0) (pe_op op_pow pe_int pe_int) (nomark _)) pa_nil)) pa_nil)))), ?_⟩
  refine ⟨_, rfl, _, rfl, _, _, rfl, rfl, ⟨by decide, by decide, by decide⟩, _, _, rfl, rfl, .inr ⟨_, rfl, ?_⟩⟩
  refine ⟨by show 2 ≤ sizeLine; decide, fun l hl => ?_⟩
  exact q l _ hl (same_upd hl) ⟨_, _, upd_same⟩
theorem scDraw : FnScope ["_law_pen_here", "_law_bound", "_law_drawn"] ["_law_pen_here", "_law_bound"] (defScope sDraw) := ⟨rfl, rfl, rfl, by decide +kernel, rfl, by decide +kernel, by decide +kernel⟩
theorem ok_draw {f : Addr} {fd : FuncData} (F : Fun K "_law_draw" "_law_draw" sDraw f fd) (T : Txt mg) : FnOk P w K mg base CX0 1 f fd ["_law_pen_here", "_law_bound"] spDraw := by
 refine F.ok scDraw (fun vs H Q E h => ?_) (fun cdv A outer s H vs Q E hr h => ?_)
 ·obtain ⟨p, m, rfl, _⟩ := h; rfl
 ·obtain ⟨p, m, rfl, ⟨x, f1, hp⟩, h0, h1, q⟩ := h
  refine ⟨_, pss_cons (ps_if (pt_cmpR op_eq (pe_ix ix_list (pv 0) pe_int (fun _ _ => rfl)) pe_int (nomark _))
    (pss_cons (ps_set (i := 2) scDraw.nd rfl (Or.inl rfl) (pe_op op_mod (pe_ix ix_list (pv 0) pe_int (fun _ _ => rfl)) (pv 1)))
    (pss_cons (ps_asg (pe_op op_fdiv (pe_ix ix_list (pv 0) pe_int (fun _ _ => rfl)) (pv 1)) (pg_sub (pv 0) pe_int set_list))
    (pss_one (ps_ret (pv 2))))) pss_nil)
   (pss_cons (ps_asg (pe_op op_mod (pe_op op_add (pe_op op_mul (pe_op op_mod (pe_ix ix_list (pv 0) pe_int (fun _ _ => rfl)) pe_int) pe_int) pe_int) pe_int) (pg_sub (pv 0) pe_int set_list))
   (pss_one (ps_ret (pe_op op_mod (pe_op op_fdiv (pe_op op_mod (pe_op op_add (pe_op op_mul (pe_ix ix_list (pv 0) pe_int (fun _ _ => rfl)) (pe_ix ix_list (pv 0) pe_int (fun _ _ => rfl))) (pe_op op_mul pe_int (pe_ix ix_list (pv 0) pe_int (fun _ _ => rfl)))) pe_int) pe_int) (pv 1))))), ?_⟩
  refine ⟨_, rfl, p, _, 1, _, rfl, rfl, SqL.of hp, atI_nat (j := 1) rfl, rfl, _, rfl, ite2d (fun _ => ?_) fun _ => ?_⟩
  ·refine ⟨_, rfl, p, _, 0, _, rfl, rfl, SqL.of hp, atI_nat (j := 0) rfl, _, rfl, _, _, rfl, rfl, h0, ?_⟩
   refine ⟨_, rfl, p, _, 0, _, rfl, rfl, SqL.of hp, atI_nat (j := 0) rfl, _, rfl, _, _, rfl, rfl, ⟨h0, by omega⟩, ?_⟩
   refine ⟨_, rfl, p, _, 0, 0, rfl, rfl, hp, rfl, ?_⟩
   refine ⟨_, rfl, ?_⟩
   exact q _ _ (Int.emod_nonneg _ (by omega)) (Int.emod_lt_of_pos _ h0) ⟨⟨_, _, upd_same⟩, fun b o hb e => by rw [upd_ne hb]; exact e⟩
  ·have hm : ∀ y : Int, 0 ≤ y % 2147483629 ∧ y % 2147483629 < 2147483629 := fun y => ⟨Int.emod_nonneg _ (by omega), Int.emod_lt_of_pos _ (by omega)⟩
   have b1 := hm x
   have b2 := hm (x % 2147483629 * 48271 + 11)
   refine ⟨_, rfl, p, _, 0, _, rfl, rfl, SqL.of hp, atI_nat (j := 0) rfl, _, _, rfl, rfl, (by show (0 : Int) < 2147483629; decide), _, _, rfl, rfl, .inl ⟨by omega, by omega⟩, _, _, rfl, rfl, _, _, rfl, rfl, (by show (0 : Int) < 2147483629; decide), ?_⟩
   refine ⟨_, rfl, p, _, 0, 0, rfl, rfl, hp, rfl, ?_⟩
   refine ⟨_, rfl, p, _, 0, _, rfl, rfl, SqL.of upd_same, atI_nat (j := 0) rfl, _, rfl, p, _, 0, _, rfl, rfl, SqL.of upd_same, atI_nat (j := 0) rfl, _, _, rfl, rfl, .inl ⟨by omega, by omega⟩, ?_⟩
   refine ⟨_, rfl, p, _, 0, _, rfl, rfl, SqL.of upd_same, atI_nat (j := 0) rfl, _, _, rfl, rfl, .inl ⟨by decide, by decide⟩, _, _, rfl, rfl, _, _, rfl, rfl, (by show (0 : Int) < 2147483647; decide), _, _, rfl, rfl, ⟨by decide, by decide⟩, _, rfl, _, _, rfl, rfl, h0, ?_⟩
   exact q _ _ (Int.emod_nonneg _ (by omega)) (Int.emod_lt_of_pos _ h0) ⟨⟨_, _, upd_same⟩, fun b o hb e => by rw [upd_ne hb]; exact e⟩
end
noncomputable def spPick : Sp := fun vs H Q _ => ∃ p l xs, vs = [.ref p, .ref l] ∧ PenAt H p ∧ l ≠ p ∧ H l = some (.lst xs) ∧ 1 ≤ xs.length ∧ xs.length ≤ 1000 ∧ ∀ v H', v ∈ xs → Stp p H H' → Q v H'
section
variable {P : Program} {w : World} {K : PySem.W.Frag} {mg : Str → Option Value} {base : Heap}
theorem scPick : FnScope ["_law_pen_here", "_law_things"] ["_law_pen_here", "_law_things"] (defScope sPick) := ⟨rfl, rfl, rfl, by decide +kernel, rfl, by decide +kernel, by decide +kernel⟩
theorem ok_pick {f g1 : Addr} {fd d1 : FuncData} (F : Fun K "_law_pick" "_law_pick" sPick f fd) (T : Txt mg) (a1 : At P w K mg base 1 "_law_draw" g1 d1 ["_law_pen_here", "_law_bound"] spDraw) : FnOk P w K mg base CX0 2 f fd ["_law_pen_here", "_law_things"] spPick := by
 refine F.ok scPick (fun vs H Q E h => ?_) (fun cdv A outer s H vs Q E hr h => ?_)
 ·obtain ⟨p, l, xs, rfl, _⟩ := h; rfl
 ·obtain ⟨p, l, xs, rfl, hp, hlp, hl, h1, hz, q⟩ := h
  refine ⟨_, pss_one (ps_ret (pe_ix ix_list (pv 1) (pe_call a1.ok hr rfl a1.nm a1.kp a1.bd .nil pass0 (pa_v (pv 0) (pa_k (pe_callB call_len_seq rfl T.len PySem.boot_len (pa_v (pv 1) pa_nil)) pa_nil))) (fun _ _ => rfl))), ?_⟩
  refine ⟨_, rfl, _, rfl, _, rfl, l, xs, rfl, .inl (SqL.of hl), p, (xs.length : Int), rfl, hp, by omega, by omega, fun d H' d0 d1' st => ?_⟩
  obtain ⟨n, rfl⟩ := Int.eq_ofNat_of_zero_le d0
  have hn : n < xs.length := by omega
  exact ⟨l, xs, _, xs[n], rfl, rfl, SqL.of (st.keep l _ hlp hl), atI_nat (List.getElem?_eq_getElem hn), q _ _ (List.getElem_mem _) st⟩
end
end M03
namespace M03
open PySem L2 PyProof.Rows
noncomputable abbrev sClaimsL : Stmt := top 48
noncomputable def ent (c : C3) : List Key × V := ([Sum.inl c.1, Sum.inl c.2.1], .int c.2.2)
noncomputable def putC (es : List C3) (h s m : Int) : List C3 := if (es.any fun c => decide (key2 c = (h, s))) = true then es.map (fun c => if key2 c = (h, s) then (h, s, m) else c) else es ++ [(h, s, m)]
theorem key_eq {c : C3} {h s : Int} : (ent c).1 = [Sum.inl h, Sum.inl s] ↔ key2 c = (h, s) := by
 unfold ent key2
 constructor
 ·intro e
  have e1 := (List.cons.inj e).1
  have e2 := (List.cons.inj (List.cons.inj e).2).1
  rw [Sum.inl.inj e1, Sum.inl.inj e2]
 ·intro e
  rw [(Prod.mk.inj e).1, (Prod.mk.inj e).2]
theorem putK_ent (es : List C3) (h s m : Int) : putK (es.map ent) [Sum.inl h, Sum.inl s] (.int m) = (putC es h s m).map ent := by
 unfold putK putC
 have e1 : ((es.map ent).any fun kv => decide (kv.1 = [Sum.inl h, Sum.inl s])) = es.any fun c => decide (key2 c = (h, s)) := by
  rw [List.any_map]
  congr 1
  funext c
  exact decide_eq_decide.mpr key_eq
 rw [e1]
 split
 ·rw [List.map_map, List.map_map]
  refine List.map_congr_left fun c _ => ?_
  show (if (ent c).1 = [Sum.inl h, Sum.inl s] then ((ent c).1, V.int m) else ent c) = ent (if key2 c = (h, s) then (h, s, m) else c)
  by_cases e : key2 c = (h, s)
  ·rw [if_pos (key_eq.mpr e), if_pos e, key_eq.mpr e]; rfl
  ·rw [if_neg (fun z => e (key_eq.mp z)), if_neg e]
 ·rw [List.map_append]; rfl
theorem putC_keys (es : List C3) (h s m : Int) (hn : (es.map key2).Nodup) : ((putC es h s m).map key2).Nodup := by
 unfold putC
 by_cases hany : (es.any fun c => decide (key2 c = (h, s))) = true
 ·rw [if_pos hany, List.map_map]
  have : es.map (key2 ∘ fun c => if key2 c = (h, s) then (h, s, m) else c) = es.map key2 := List.map_congr_left fun c _ => by
   show key2 (if key2 c = (h, s) then (h, s, m) else c) = key2 c
   by_cases e : key2 c = (h, s)
   ·rw [if_pos e, e]; rfl
   ·rw [if_neg e]
  rw [this]; exact hn
 ·rw [if_neg hany, List.map_append]
  refine List.nodup_append.mpr ⟨hn, by simp, fun a ha b hb e => hany ?_⟩
  have hb' : b = (h, s) := by simpa [key2] using hb
  obtain ⟨c, hc, rfl⟩ := List.mem_map.mp ha
  exact List.any_eq_true.mpr ⟨c, hc, decide_eq_true (e.trans hb')⟩
theorem putC_all {es : List C3} {h s m : Int} {B : C3 → Prop} (ha : ∀ c ∈ es, B c) (hb : B (h, s, m)) : ∀ c ∈ putC es h s m, B c := by
 unfold putC
 intro c hc
 by_cases hany : (es.any fun c => decide (key2 c = (h, s))) = true
 ·rw [if_pos hany] at hc
  obtain ⟨d, hd, rfl⟩ := List.mem_map.mp hc
  by_cases e : key2 d = (h, s)
  ·rw [if_pos e]; exact hb
  ·rw [if_neg e]; exact ha d hd
 ·rw [if_neg hany] at hc
  rcases List.mem_append.mp hc with z | z
  ·exact ha c z
  ·rw [List.mem_singleton.mp z]; exact hb
theorem putC_len (es : List C3) (h s m : Int) : (putC es h s m).length ≤ es.length + 1 ∧ 1 ≤ (putC es h s m).length := by
 unfold putC
 by_cases hany : (es.any fun c => decide (key2 c = (h, s))) = true
 ·rw [if_pos hany, List.length_map]
  refine ⟨by omega, ?_⟩
  obtain ⟨c, hc, _⟩ := List.any_eq_true.mp hany
  exact List.length_pos_of_mem hc
 ·rw [if_neg hany, List.length_append]
  simp
noncomputable def row (c : C3) : List Int := [c.1, c.2.1, c.2.2]
noncomputable def unrow : List Int → C3 | [a, b, c] => (a, b, c) | _ => (0, 0, 0)
theorem lt_of_rows {a b : C3} (h : HT.lexLt (row b) (row a) = false) (hn : key2 a ≠ key2 b) : lt2 (key2 a) (key2 b) = true := by
 obtain ⟨a1, a2, a3⟩ := a
 obtain ⟨b1, b2, b3⟩ := b
 unfold row at h
 unfold lt2 key2
 unfold key2 at hn
 dsimp only at h hn ⊢
 rw [HT.lexLt_cons, HT.lexLt_cons] at h ⊢
 by_cases e1 : a1 = b1
 ·subst e1
  rw [if_pos rfl] at h ⊢
  by_cases e2 : a2 = b2
  ·subst e2; exact absurd rfl hn
  ·rw [if_neg (fun z => e2 z.symm), decide_eq_false_iff_not] at h
   rw [if_neg e2, decide_eq_true_eq]; omega
 ·rw [if_neg (fun z => e1 z.symm), decide_eq_false_iff_not] at h
  rw [if_neg e1, decide_eq_true_eq]; omega
theorem clOk_of {es : List C3} {zs zs' : List (Addr × List Int)} (hz : zs.map (·.2) = es.map row) (hs : Sorted2 zs zs') (h1 : 1 ≤ es.length) (h12 : es.length ≤ 12) (hb : ∀ c ∈ es, (0 ≤ c.1 ∧ c.1 ≤ 3) ∧ (0 ≤ c.2.1 ∧ c.2.1 ≤ 5) ∧ 1 ≤ c.2.2 ∧ c.2.2 ≤ 20) (hn : (es.map key2).Nodup) :
  ClOk (zs'.map fun z => unrow z.2) ∧ (zs'.map fun z => unrow z.2).Perm es ∧ ∀ z ∈ zs', z.2 = row (unrow z.2) := by
 have hlen : zs.length = es.length := by have := congrArg List.length hz; simpa using this
 have e0 : zs.map (fun z => unrow z.2) = es := by
  have : zs.map (fun z => unrow z.2) = (zs.map (·.2)).map unrow := by rw [List.map_map]; rfl
  rw [this, hz, List.map_map]
  exact List.map_id' es
 have hp : (zs'.map fun z => unrow z.2).Perm es := by rw [← e0]; exact hs.1.map _
 have hrow : ∀ z ∈ zs', z.2 = row (unrow z.2) := fun z hz' => by
  have hm : z.2 ∈ zs.map (·.2) := List.mem_map_of_mem (hs.1.mem_iff.mp hz')
  rw [hz] at hm
  obtain ⟨c, _, e⟩ := List.mem_map.mp hm
  rw [← e]; rfl
 have hl' : (zs'.map fun z => unrow z.2).length = es.length := hp.length_eq
 refine ⟨⟨by omega, by omega, fun c hc => hb c (hp.mem_iff.mp hc), ?_⟩, hp, hrow⟩
 have nd : ((zs'.map fun z => unrow z.2).map key2).Nodup := ((hp.map key2).nodup_iff).mpr hn
 rw [List.map_map] at nd ⊢
 rw [List.nodup_iff_pairwise_ne, List.pairwise_map] at nd
 rw [List.pairwise_map]
 have both := hs.2.and nd
 rw [List.pairwise_iff_getElem] at both ⊢
 intro i j hi hj hij
 have b := both i j hi hj hij
 have r1 := hrow _ (List.getElem_mem hi)
 have r2 := hrow _ (List.getElem_mem hj)
 have b1 := b.1
 rw [r1, r2] at b1
 exact lt_of_rows b1 b.2
section
variable {P : Program} {w : World} {K : PySem.W.Frag} {mg : Str → Option Value} {base : Heap}
end
end M03
namespace L2
open PySem PySem.Spec PyProof.Rows
theorem Stp.updO {p d : Addr} {H H1 : Hp} {o : HO} (s : Stp p H H1) (hd : H d = none) (hp : PenAt H p) : Stp p H (upd H1 d o) := by
 obtain ⟨x, f, e⟩ := hp
 have hne : p ≠ d := ne_of_none e hd
 obtain ⟨x', f', e'⟩ := s.pen
 exact ⟨⟨x', f', by rw [upd_ne hne]; exact e'⟩, fun b o hb h => by rw [upd_ne (ne_of_none h hd)]; exact s.keep b o hb h⟩
theorem Stp.none {p b : Addr} {H H1 : Hp} (s : Stp p H H1) (h : H1 b = Option.none) : H b = Option.none ∧ b ≠ p := by
 have hb : b ≠ p := fun z => by
  obtain ⟨x, f, e⟩ := s.pen
  rw [z, e] at h; cases h
 refine ⟨?_, hb⟩
 cases e : H b with
 | none => rfl
 | some o => rw [s.keep b o hb e] at h; cases h
theorem for_items {d : Addr} {o : Obj} {kvs : List (List Key × V)} {g : TG} {tb : TS} {D : Ends} {σ : St} {H : Hp} (Pv : Nat → St → Hp → Prop) (h0 : Pv 0 σ H) (hl : ∀ i σ H, Pv i σ H → H d = some (.frz o (.dT kvs)))
  (hs : ∀ i k x p b σ H, kvs[i]? = some (k, x) → Pv i σ H → H p = none → H b = some (.tup (k.map kV)) → g (.ref p) σ (upd H p (.tup [.ref b, x])) fun σ2 H2 => tb { D with nx := Pv (i + 1), ct := Pv (i + 1), bk := D.nx } σ2 H2) (hd : ∀ σ H, Pv kvs.length σ H → D.nx σ H) :
  tForJ (Itm d o kvs) g tb D σ H := by
 refine ⟨fun i m σ H => m = kvs.length - i ∧ i ≤ kvs.length ∧ Pv i σ H, ⟨kvs.length, by simp, Nat.zero_le _, h0⟩, ?_⟩
 rintro i m σ H ⟨rfl, hi, p⟩
 by_cases hlt : i < kvs.length
 ·refine .inr ⟨⟨hl i σ H p, hlt⟩, Pv (i + 1), fun σ' H' p' => ⟨kvs.length - (i + 1), by omega, rfl, hlt, p'⟩, fun x H' y => ?_⟩
  obtain ⟨pp, b, k, x', e1, e2, e3, e4, e5⟩ := y
  subst e1 e3
  exact hs i k x' pp b σ H e4 p e2 e5
 ·have e : i = kvs.length := by omega
  subst e
  exact .inl ⟨⟨hl _ σ H p, rfl⟩, hd σ H p⟩
end L2
namespace M03
open PySem L2 PyProof.Rows
theorem boot_sorted : bootBuiltins "sorted" = some (.builtin "sorted") := by decide +kernel
noncomputable def HoOk (hs : List Int) : Prop := 1 ≤ hs.length ∧ hs.length ≤ 1000 ∧ ∀ x ∈ hs, 0 ≤ x ∧ x ≤ 3
noncomputable def spClaimsL : Sp := fun vs H Q _ => ∃ p c hl cs hs, vs = [.ref p, .ref c, .ref hl] ∧ PenAt H p ∧ cuAt H c cs ∧ CuOk cs ∧ hl ≠ p ∧ H hl = some (.lst ((hs : List Int).map V.int)) ∧ HoOk hs ∧ ∀ a cl H', Stp p H H' → ClT H' a cl → ClOk cl → Under cs cl → Q (.ref a) H'
noncomputable abbrev nCL : List Str := ["_law_pen_here", "_law_custom", "_law_holders_here", "_law_rights", "_law_turn", "_law_holder", "_law_sort"]
section
variable {P : Program} {w : World} {K : PySem.W.Frag} {mg : Str → Option Value} {base : Heap}
theorem scClaimsL : FnScope nCL ["_law_pen_here", "_law_custom", "_law_holders_here"] (defScope sClaimsL) := ⟨rfl, rfl, rfl, by decide +kernel, rfl, by decide +kernel, by decide +kernel⟩
theorem ndPM : (["_law_pair", "_law_many"] : List Str).Nodup := by decide +kernel
theorem ok_claimsL {f g1 g2 : Addr} {fd d1 d2 : FuncData} (F : Fun K "_law_claims" "_law_claims" sClaimsL f fd) (T : Txt mg) (a1 : At P w K mg base 1 "_law_draw" g1 d1 ["_law_pen_here", "_law_bound"] spDraw) (a2 : At P w K mg base 2 "_law_pick" g2 d2 ["_law_pen_here", "_law_things"] spPick) : FnOk P w K mg base CX0 3 f fd ["_law_pen_here", "_law_custom", "_law_holders_here"] spClaimsL := by
  refine F.ok scClaimsL (fun vs H Q E h => ?_) (fun cdv A outer s H vs Q E hr h => ?_)
  · obtain ⟨p, c, hl, cs, hs, rfl, _⟩ := h; rfl
  · obtain ⟨p, c, hl, cs, hs, rfl, hp, hc, Gc, hlp, hhl, Gh, q⟩ := h
    have nd := scClaimsL.nd
    have r1 : Room 1 _ := hr.mono (by decide)
    have hu : (A.deeper (envOfC "_law_claims" (defScope sClaimsL) s.heap.objs.size f cdv)).units + 1 < cLine := hu_of hr
    refine ⟨_, pss_cons (ps_set (i := 3) nd rfl (Or.inl rfl) pe_dnewT) <|
      pss_cons (ps_for PassesOwn.never rfl (pi_range1 rfl T.range (pa_b (pe_op op_add pe_int (pe_call a1.ok r1 rfl a1.nm a1.kp a1.bd .nil pass0 (pa_v (pv 0) (pa_c pe_int pa_nil)))) pa_nil)) (pg_name (i := 4) nd rfl (Or.inl rfl))
        (pss_cons (ps_par (i := 5) (j := 6) rfl nd rfl rfl (by decide) rfl rfl (pa_k (pe_call a2.ok hr rfl a2.nm a2.kp a2.bd .nil pass0 (pa_v (pv 0) (pa_v (pv 2) pa_nil))) (pa_k (pe_call a1.ok r1 rfl a1.nm a1.kp a1.bd .nil pass0 (pa_v (pv 0) (pa_k (pe_callB call_len_seq rfl T.len PySem.boot_len (pa_v (pv 1) pa_nil)) pa_nil))) pa_nil)) rfl) <|
         pss_one (ps_dput hu (pv 3) (pe_tup (pa_v (pv 5) (pa_v (pv 6) pa_nil))) (pe_call a2.ok hr rfl a2.nm a2.kp a2.bd .nil pass0 (pa_v (pv 0) (pa_q (pq_lq (lstq (pq_i (pq_i (pq_i (pq_i (pq_b (pe_op op_add pe_int (pe_call a1.ok r1 rfl a1.nm a1.kp a1.bd .nil pass0 (pa_v (pv 0) (pa_c pe_int pa_nil)))) pq_nil)))))) pq_nil)))) rfl))) <|
      pss_one (ps_ret (pe_callTy call_tuple_of rfl T.tuple boot_tuple (pa_k (pe_callB call_sortedT rfl T.sorted boot_sorted (pa_lc (pe_comp1 (defScope sClaimsL).names nCL ["_law_pair", "_law_many"] [] rfl (pi_items (pv 3)) rfl rfl rfl (by decide +kernel)
        (fun Z => pg_tup rfl (pgs_cons (pg_name (i := 0) ndPM rfl (Or.inl rfl)) (pgs_cons (pg_name (i := 1) ndPM rfl (Or.inl rfl)) pgs_nil))) (fun Z => pts_nil) (fun Z => pe_op op_catU (pv 0) (pe_tup (pa_v (pv 1) pa_nil)))) pa_nil)) pa_nil))), ?_⟩
    intro d hd
    have st0 : Stp p H (upd H d (.dT [])) := (Stp.refl hp).updO hd hp
    refine ⟨_, rfl, p, 8, rfl, st0.pen, by decide, by decide, fun dn H1 d0 d1' st1 => ?_⟩
    refine ⟨_, _, rfl, rfl, 1 + dn, rfl, by omega, by omega, ?_⟩
    have hdp : d ≠ p := fun z => by
      obtain ⟨x, y, e⟩ := hp
      rw [z, e] at hd; cases hd
    refine for_range (lo := 0) (n := (1 + dn).toNat) (fun i σ H' => (∃ o4 o5 o6, σ = [some (.ref p), some (.ref c), some (.ref hl), some (.ref d), o4, o5, o6]) ∧ Stp p H H' ∧ ∃ es : List C3, H' d = some (.dT (es.map ent)) ∧ (es.map key2).Nodup ∧ (∀ x ∈ es, ((0 ≤ x.1 ∧ x.1 ≤ 3) ∧ (0 ≤ x.2.1 ∧ x.2.1 ≤ 5) ∧ 1 ≤ x.2.2 ∧ x.2.2 ≤ 20) ∧ x.2.1 < cs.length) ∧ es.length ≤ i ∧ (1 ≤ i → 1 ≤ es.length))
      ⟨⟨_, _, _, rfl⟩, st0.trans st1, [], st1.keep d _ hdp upd_same, List.nodup_nil, (fun x hx => by cases hx), Nat.le_refl _, fun z => by omega⟩ ?_ ?_
    · rintro i σ H' hi ⟨⟨o4, o5, o6, rfl⟩, st, es, hd', hn, hb, hlen, _⟩
      have hcH : ∀ H2, Stp p H H2 → cuAt H2 c cs := fun H2 s => s.keep c _ (hp.ne hc (by intro z; simp)) hc
      refine ⟨_, rfl, _, rfl, p, hl, _, rfl, st.pen, hlp, st.keep hl _ hlp hhl, by rw [List.length_map]; exact Gh.1, by rw [List.length_map]; exact Gh.2.1, fun v H2 hv st2 => ?_⟩
      obtain ⟨hh, hhm, rfl⟩ := List.mem_map.mp hv
      have hhb := Gh.2.2 hh hhm
      have st12 := st.trans st2
      refine ⟨_, rfl, _, rfl, c, _, rfl, .inr (SqT.of (hcH _ st12)), p, _, rfl, st12.pen, ?_, ?_, fun sn H3 s0 s1 st3 => ?_⟩
      · rw [List.length_map]; have := Gc.l1; omega
      · rw [List.length_map]; have := Gc.l6; omega
      rw [List.length_map] at s1
      refine ⟨_, _, rfl, ?_⟩
      have st13 := st12.trans st3
      refine ⟨_, rfl, _, rfl, p, 20, rfl, st13.pen, by decide, by decide, fun m H4 m0 m1 st4 => ?_⟩
      refine ⟨_, _, rfl, rfl, by show 5 ≤ sizeLine; decide, fun t ht => ?_⟩
      have st14 := st13.trans st4
      have htn := st14.none ht
      have st5 := st14.same (same_upd (o := .lst [.int 1, .int 1, .int 2, .int 3, .int (1 + m)]) ht)
      refine ⟨p, t, _, rfl, st5.pen, htn.2, upd_same, by show 1 ≤ 5; decide, by show 5 ≤ 1000; decide, fun v H6 hv6 st6 => ?_⟩
      obtain ⟨x, rfl, hx1, hx2⟩ : ∃ x, v = V.int x ∧ 1 ≤ x ∧ x ≤ 20 := by
        simp only [List.mem_cons, List.not_mem_nil, or_false] at hv6
        rcases hv6 with rfl | rfl | rfl | rfl | rfl
        · exact ⟨1, rfl, by decide, by decide⟩
        · exact ⟨1, rfl, by decide, by decide⟩
        · exact ⟨2, rfl, by decide, by decide⟩
        · exact ⟨3, rfl, by decide, by decide⟩
        · exact ⟨1 + m, rfl, by omega, by omega⟩
      have st7 := st5.trans st6
      have hd4 : H4 d = some (.dT (es.map ent)) := st4.keep d _ hdp (st3.keep d _ hdp (st2.keep d _ hdp hd'))
      have hd6 : H6 d = some (.dT (es.map ent)) := st6.keep d _ hdp (same_upd (o := .lst [.int 1, .int 1, .int 2, .int 3, .int (1 + m)]) ht _ _ hd4)
      refine ⟨_, rfl, _, rfl, _, rfl, by show 2 ≤ sizeLine; decide, fun k hk => ?_⟩
      have hkd : d ≠ k := fun z => by rw [← z, hd6] at hk; cases hk
      have hd8 : (upd H6 k (.tup [.int hh, .int sn])) d = some (.dT (es.map ent)) := by rw [upd_ne hkd]; exact hd6
      have hkt : (upd H6 k (.tup [.int hh, .int sn])) k = some (.tup (([Sum.inl hh, Sum.inl sn] : List Key).map kV)) := by rw [upd_same]; rfl
      refine ⟨d, _, rfl, DPut.t hd8 hkt (by rw [List.length_map]; exact small1000 (by omega)), ?_⟩
      rw [putK_ent]
      have hl2 := putC_len es hh sn x
      refine ⟨⟨_, _, _, rfl⟩, (st7.same (same_upd hk)).updO hd hp, putC es hh sn x, upd_same, putC_keys es hh sn x hn, putC_all hb ⟨⟨hhb, ⟨s0, by have := Gc.l6; show sn ≤ 5; omega⟩, hx1, hx2⟩, s1⟩, by omega, fun _ => hl2.2⟩
    · rintro σ H' ⟨⟨o4, o5, o6, rfl⟩, st, es, hd', hn, hb, hlen, h1⟩
      have hel : es.length ≤ 8 := by omega
      have he1 : 1 ≤ es.length := h1 (by omega)
      refine ⟨_, rfl, d, _, rfl, hd', fun o Z l hl0 => ?_⟩
      have stf : Stp p H (upd H' d (.frz o (.dT (es.map ent)))) := st.updO hd hp
      have hln := stf.none hl0
      have hld : l ≠ d := fun z => by rw [z, upd_same] at hl0; cases hl0
      refine for_items (fun i σ H2 => σ.length = 2 ∧ H2 d = some (.frz o (.dT (es.map ent))) ∧ Stp p H H2 ∧ ∃ zs : List (Addr × List Int), H2 l = some (.lst (zs.map fun z => V.ref z.1)) ∧ zs.map (·.2) = (es.take i).map row ∧ ∀ z ∈ zs, H2 z.1 = some (.tup (z.2.map V.int)))
        ⟨rfl, by rw [upd_ne hld.symm, upd_same], stf.updO hln.1 hp, [], by rw [upd_same]; rfl, rfl, fun z hz => by cases hz⟩ (fun i σ H2 h => h.2.1) ?_ ?_
      · rintro i k x pp b σ H2 hki ⟨hσ, hfz, st2, zs, hl2, hzr, hza⟩ hpp hb2
        match σ, hσ with
        | [x0, x1], _ =>
        rw [List.getElem?_map] at hki
        cases hei : es[i]? with
        | none => rw [hei] at hki; cases hki
        | some cc =>
        rw [hei] at hki
        have hke : ent cc = (k, x) := Option.some.inj hki
        have ek : k = [Sum.inl cc.1, Sum.inl cc.2.1] := (Prod.mk.inj hke).1.symm
        have ex : x = V.int cc.2.2 := (Prod.mk.inj hke).2.symm
        subst ek ex
        have hi : i < es.length := (List.getElem?_eq_some_iff.mp hei).1
        have hzl : zs.length ≤ i := by
          have := congrArg List.length hzr
          rw [List.length_map, List.length_map, List.length_take] at this; omega
        have s3 := same_upd (o := .tup [.ref b, .int cc.2.2]) hpp
        refine ⟨pp, _, rfl, SqT.of upd_same, rfl, _, _, rfl, _, _, rfl, rfl, ?_⟩
        refine body_all ?_
        refine ⟨_, rfl, _, rfl, by show 1 ≤ sizeLine; decide, fun t ht => ?_⟩
        have s4 := same_upd (o := .tup [.int cc.2.2]) ht
        refine ⟨b, t, _, [.int cc.2.2], rfl, rfl, s4 _ _ (s3 _ _ hb2), upd_same, by show 2 + 1 ≤ sizeLine; decide, fun u H5 s5 hu5 => ?_⟩
        have s35 := (s3.trans s4).trans s5
        have hl5 := s35 _ _ hl2
        refine ⟨_, hl5, small1000 (by rw [List.length_map]; omega), rfl, ?_, (st2.same s35).updO hln.1 hp, zs ++ [(u, row cc)], ?_, ?_, fun z hz => ?_⟩
        · rw [upd_ne hld.symm]; exact s35 _ _ hfz
        · rw [upd_same, List.map_append]; rfl
        · rw [List.map_append, hzr, List.take_succ, hei, List.map_append]; rfl
        · have up : ∀ a xs, H5 a = some (.tup xs) → (upd H5 l (.lst (zs.map (fun z => V.ref z.1) ++ [.ref u]))) a = some (.tup xs) := fun a xs e => by rw [upd_ne (fun z => by rw [z, hl5] at e; cases e)]; exact e
          rcases List.mem_append.mp hz with z' | z'
          · exact up _ _ (s35 _ _ (hza z z'))
          · rw [List.mem_singleton.mp z']; exact up _ _ hu5
      · rintro σ H2 ⟨_, _, st2, zs, hl2, hzr, hza⟩
        rw [List.length_map, List.take_of_length_le (Nat.le_refl _)] at hzr
        have hzl : zs.length = es.length := by
          have := congrArg List.length hzr
          simpa using this
        refine ⟨l, zs, rfl, SqL.of hl2, fun z hz => ⟨hza z hz, fun e => ?_⟩, by omega, fun l2 zs' hl3 hs2 => ?_⟩
        · have hm : z.2 ∈ es.map row := by rw [← hzr]; exact List.mem_map_of_mem hz
          obtain ⟨c', _, e'⟩ := List.mem_map.mp hm
          rw [← e'] at e; cases e
        have s3 := same_upd (o := .lst (zs'.map fun z => V.ref z.1)) hl3
        obtain ⟨gO, gP, gR⟩ := clOk_of hzr hs2 he1 (by omega) (fun x hx => (hb x hx).1) hn
        refine ⟨l2, _, rfl, .inl ⟨SqL.of upd_same, fun a ha => ?_⟩⟩
        have s4 := same_upd (o := .tup (zs'.map fun z => V.ref z.1)) ha
        refine q a (zs'.map fun z => unrow z.2) _ ((st2.same s3).same s4) ⟨zs'.map (·.1), by rw [upd_same, List.map_map]; rfl, ?_⟩ gO fun x hx => (hb x (gP.mem_iff.mp hx)).2
        have go : ∀ ys : List (Addr × List Int), (∀ z ∈ ys, z ∈ zs') → ClP (upd (upd H2 l2 (.lst (zs'.map fun z => V.ref z.1))) a (.tup (zs'.map fun z => V.ref z.1))) (ys.map (·.1)) (ys.map fun z => unrow z.2) := fun ys => by
          induction ys with
          | nil => intro _; exact .nil
          | cons y ys ih =>
            intro hy
            refine .cons ?_ (ih fun z hz => hy z (List.mem_cons_of_mem _ hz))
            have hy' := hy y List.mem_cons_self
            have e := hza y (hs2.1.mem_iff.mp hy')
            rw [gR y hy'] at e
            exact s4 _ _ (s3 _ _ e)
        exact go zs' fun z hz => hz
end
end M03
namespace L2
open PySem PySem.Spec PyProof.Rows Srt
theorem collect_tup {prog : Program} {w : World} {A : Around} {E : Value → Shared → Prop} {s : Shared} {l : Addr} {vs : List Value} {Q : List Value → Shared → Prop} (hl : IsTup s.heap l vs.toArray) (hz : vs.length ≤ sizeLine)
  (h : Q vs { s with heap := (s.heap.push (seqObj "list" #[] 0)).update s.heap.objs.size (Obj.mapSeq (· ++ vs.toArray)) }) : wpAny (model prog w) A (collect (.ref l)) Q E s := by
 obtain ⟨o, ho, hc, n, hd⟩ := id hl
 unfold collect
 refine wpAny_bind (wpAny_runValue (codeAny_builtin entry_proto_collect' ?_))
 show wpAny _ _ (newList [] >>= fun v => again (.builtin "list.__iadd__" ⟨[v, .ref l], []⟩)) _ _ s
 refine wpAny_bind (wpAny_newList (wpAny_pure ⟨Code.quiet_builtin _ (by decide +kernel), codeAny_builtin entry_list_iadd' ?_⟩))
 rw [Around.under_plainId (by decide +kernel)]
 show wpAny _ _ (Builtin.List.listExtendWith (.ref s.heap.objs.size) (.ref l) (.ref s.heap.objs.size)) _ _ _
 refine wpAny_extend_seq (R := fun r s' => match r with
  | .ok (.ret v) => wpAny (model prog w) A (match v with
   | .ref a => (do
    let o ← load a
    match o.data with
    | .seq xs _ => pure xs.toList
    | _ => unsupported "internal:collect")
   | _ => unsupported "internal:collect") Q E s'
  | .ok _ => False
  | .error e => E e s') (s := { s with heap := s.heap.push (seqObj "list" #[] 0) }) s.heap.objs.size l _ 0 (.inr rfl) (Heap.get?_push_size _ rfl) (Heap.get?_push_of_some _ ho) hc hd ?_ (by rw [List.size_toArray]; exact hz)
 refine wpAny_bind (wpAny_load (get?_update_seq (Heap.get?_push_size _ rfl) _) ?_)
 have e : ((#[] : Array Value) ++ vs.toArray).toList = vs := by simp
 refine wpAny_pure (a := ((#[] : Array Value) ++ vs.toArray).toList) ?_
 rw [e]; exact h
section
variable {X : Cx}
theorem call_sortedU : CallR X (.builtin "sorted") (fun xs H Q => ∃ (p : Addr) (zs : List (Addr × List Int)), xs = [.ref p] ∧ SqT X.K H p (zs.map fun z => V.ref z.1) ∧ (∀ z ∈ zs, H z.1 = some (.tup (z.2.map V.int)) ∧ z.2 ≠ []) ∧ zs.length < 64 ∧
  ∀ l zs', H l = none → Sorted2 zs zs' → Q (.ref l) (upd H l (.lst (zs'.map fun z => V.ref z.1)))) := by
 intro pins s σ H xs us Q I r h
 obtain ⟨p, zs, rfl, hq, hz, h64, q⟩ := h
 obtain ⟨u, rfl, rx⟩ := vals1 r
 cases rx
 obtain ⟨its, rv, pl, _⟩ := I.tuple hq
 have hits : its = zs.map fun z => Value.ref z.1 := by
  have := refs_of (as := zs.map (·.1)) (us := its) (by rw [List.map_map]; exact rv)
  rw [this, List.map_map]; rfl
 subst hits
 refine sorted_gen I hz h64 (fun Q' k => ?_) q
 refine collect_tup pl (by rw [List.length_map, sizeLine_eq]; omega) ?_
 refine k _ s.toks (fun b o e => ?_) (by rw [Heap.size_update, size_push']; exact Nat.le_succ _)
 rw [Heap.get?_update_ne _ _ _ _ (Nat.ne_of_lt (Heap.lt_size e))]
 exact Heap.get?_push_of_some _ e
end
end L2
namespace M03
open PySem L2 PyProof.Rows
noncomputable abbrev sChkClaim : Stmt := top 30
noncomputable abbrev sLaid : Stmt := top 35
noncomputable abbrev sDenied : Stmt := top 36
noncomputable def NumOk (c : C3) : Prop := (0 ≤ c.1 ∧ c.1 ≤ 3) ∧ (0 ≤ c.2.1 ∧ c.2.1 ≤ 5) ∧ 1 ≤ c.2.2 ∧ c.2.2 ≤ 20
noncomputable abbrev tupC (c : C3) : HO := .tup [.int c.1, .int c.2.1, .int c.2.2]
noncomputable def spChkClaim : Sp := fun vs H Q _ => ∃ (b : Addr) (c : C3), vs = [.ref b] ∧ H b = some (tupC c) ∧ NumOk c ∧ Q .non H
theorem clP_zs {H : Hp} : ∀ {bs : List Addr} {cl : List C3}, ClP H bs cl → ∃ zs : List (Addr × List Int), zs.map (·.1) = bs ∧ zs.map (·.2) = cl.map row ∧ ∀ z ∈ zs, H z.1 = some (.tup (z.2.map V.int)) ∧ z.2 ≠ []
 | [], [], .nil => ⟨[], rfl, rfl, fun z hz => by cases hz⟩
 | b :: bs, c :: cl, .cons r t => by
  obtain ⟨zs, h1, h2, h3⟩ := clP_zs t
  refine ⟨(b, row c) :: zs, by rw [List.map_cons, h1], by rw [List.map_cons, List.map_cons, h2], fun z hz => ?_⟩
  rcases List.mem_cons.mp hz with rfl | hz
  ·exact ⟨r, by unfold row; simp⟩
  ·exact h3 z hz
theorem clT_of {H : Hp} {a : Addr} {zs : List (Addr × List Int)} (ha : H a = some (.tup (zs.map fun z => V.ref z.1))) (hz : ∀ z ∈ zs, H z.1 = some (.tup ((row (unrow z.2)).map V.int))) : ClT H a (zs.map fun z => unrow z.2) := by
 refine ⟨zs.map (·.1), by rw [ha, List.map_map]; rfl, ?_⟩
 have go : ∀ ys : List (Addr × List Int), (∀ z ∈ ys, z ∈ zs) → ClP H (ys.map (·.1)) (ys.map fun z => unrow z.2) := fun ys => by
  induction ys with
  | nil => intro _; exact .nil
  | cons y ys ih =>
   intro hy
   exact .cons (hz y (hy y List.mem_cons_self)) (ih fun z hz => hy z (List.mem_cons_of_mem _ hz))
 exact go zs fun _ h => h
theorem hu1_of {A : Around} {k : Nat} (hr : Room k A) : A.units + 1 + 1 < cLine := Nat.lt_of_le_of_lt (Nat.add_le_add_left (by decide : 2 ≤ 64) _) hr.units
theorem boot_any' : bootBuiltins "any" = some (.builtin "any") := by decide +kernel
theorem keys_nodup {cl : List C3} (G : ClOk cl) : (cl.map key2).Nodup := by
 rw [List.nodup_iff_pairwise_ne]
 refine G.up.imp fun {a b} h e => ?_
 rw [e] at h
 unfold lt2 at h
 rw [HT.lexLt_cons, if_pos rfl, HT.lexLt_cons, if_pos rfl] at h
 cases h
section
variable {P : Program} {w : World} {K : PySem.W.Frag} {mg : Str → Option Value} {base : Heap}
theorem scChkClaim : FnScope ["claim"] ["claim"] (defScope sChkClaim) := ⟨rfl, rfl, rfl, by decide +kernel, rfl, by decide +kernel, by decide +kernel⟩
theorem ok_chkClaim {f g1 : Addr} {fd d1 : FuncData} (F : Fun K "check_claim" "check_claim" sChkClaim f fd) (a1 : At P w K mg base 3 "is_claim" g1 d1 ["thing"] spClaim) : FnOk P w K mg base CX0 4 f fd ["claim"] spChkClaim := by
 refine F.ok scChkClaim (fun vs H Q E h => ?_) (fun cdv A outer s H vs Q E hr h => ?_)
 ·obtain ⟨b, c, rfl, _⟩ := h; rfl
 ·obtain ⟨b, c, rfl, hb, hn, q⟩ := h
  refine ⟨_, pss_one (ps_if (pt_not (pt_val (pe_call a1.ok hr rfl a1.nm a1.kp a1.bd .nil pass0 (pa_v (pv 0) pa_nil)))) pss_never pss_nil), ?_⟩
  exact ⟨_, rfl, b, c, rfl, hb, hn, _, rfl, iteF q⟩
end
end M03
namespace M03
open PySem L2 PyProof.Rows
noncomputable def eq3 (y c : C3) : Bool := [decide (y.1 = c.1), decide (y.2.1 = c.2.1), decide (y.2.2 = c.2.2)].all id
theorem eq3_eq (y c : C3) : eq3 y c = decide (y = c) := by
 obtain ⟨y1, y2, y3⟩ := y
 obtain ⟨c1, c2, c3⟩ := c
 unfold eq3
 rw [Bool.eq_iff_iff]
 simp only [List.all_cons, List.all_nil, id, Bool.and_true, Bool.and_eq_true, decide_eq_true_eq, Prod.mk.injEq]
theorem e3_row {H : Hp} {n : Nat} (y c : C3) : E3 (EqD H n) [.int y.1, .int y.2.1, .int y.2.2] [.int c.1, .int c.2.1, .int c.2.2] [decide (y.1 = c.1), decide (y.2.1 = c.2.1), decide (y.2.2 = c.2.2)] := ⟨EqD.int _ _ _, EqD.int _ _ _, EqD.int _ _ _, trivial⟩
theorem eqD_row {H : Hp} {b' b : Addr} {y c : C3} (h1 : H b' = some (tupC y)) (h2 : H b = some (tupC c)) : EqD H 1 (.ref b') (.ref b) (eq3 y c) := .inr ⟨b', b, _, _, _, rfl, rfl, .inl ⟨h1, h2⟩, e3_row y c, rfl⟩
theorem e3_cl {H : Hp} {b : Addr} {c : C3} (hb : H b = some (tupC c)) : ∀ {bs : List Addr} {cl : List C3}, ClP H bs cl → E3 (EqD H 1) (bs.map V.ref) ((bs.map V.ref).map fun _ => V.ref b) (cl.map fun y => eq3 y c)
 | [], [], .nil => trivial
 | _ :: _, _ :: _, .cons r t => ⟨eqD_row r hb, e3_cl hb t⟩
section
variable {P : Program} {w : World} {K : PySem.W.Frag} {mg : Str → Option Value} {base : Heap}
end
end M03
namespace L2
open PySem PySem.Spec PyProof.Rows
theorem comp_clF {K : PySem.W.Frag} {J : It} {S : Hp → Prop} {l : Addr} {bs : List Addr} {cl : List C3} {tt : TT} {te : TE} {H0 : Hp} {rest : St} {Q : St → Hp → Prop} (W : Wk J (bs.map V.ref) S) (hS : ∀ H', Same H0 H' → S H') (hC : ClP H0 bs cl) (hl : H0 l = none) (hz : bs.length ≤ 1000) (p : C3 → Bool) (f : C3 → V)
  (tst : ∀ c H' Q', c ∈ cl → Same H0 H' → (∀ H2, Same H' H2 → Q' (p c) H2) → tt (some (.int c.1) :: some (.int c.2.1) :: some (.int c.2.2) :: rest) H' Q')
  (turn : ∀ c H' Q', c ∈ cl → p c = true → Same H0 H' → (∀ H2, Same H' H2 → Q' (f c) H2) → te (some (.int c.1) :: some (.int c.2.1) :: some (.int c.2.2) :: rest) H' Q') (hQ : ∀ σ H', Same H0 H' → H' l = some (.lst ((cl.filter p).map f)) → Q σ H') :
  tForJ J (gTup K 3 (gCons (gName 0) (gCons (gName 1) (gCons (gName 2) gNil)))) (tBodyC tt (tEmit l te)) (eC Q) (none :: none :: none :: rest) (upd H0 l (.lst [])) := by
 have hlen : bs.length = cl.length := Paired.length hC
 refine W (fun i σ H' => (∃ x y z, σ = x :: y :: z :: rest) ∧ Same H0 H' ∧ H' l = some (.lst (((cl.take i).filter p).map f))) ⟨⟨_, _, _, rfl⟩, same_upd hl, by rw [upd_same]; rfl⟩ (fun i σ H' _ h => hS _ h.2.1) ?_ ?_
 ·rintro i x σ H' hx ⟨⟨x0, y0, z0, rfl⟩, hs, hl'⟩
  rw [List.getElem?_map] at hx
  cases hb : bs[i]? with
  | none => rw [hb] at hx; cases hx
  | some b =>
   rw [hb] at hx; cases hx
   obtain ⟨c, hc, he⟩ := hC.get hb
   have hi : i < bs.length := (List.getElem?_eq_some_iff.mp hb).1
   have et : (cl.take (i + 1)).filter p = (cl.take i).filter p ++ (if p c = true then [c] else []) := by
    rw [List.take_succ, hc, List.filter_append]
    congr 1
    by_cases z : p c = true
    ·simp [z]
    ·simp [z]
   refine ⟨b, _, rfl, SqT.of (hs _ _ he), rfl, _, _, rfl, _, _, rfl, _, _, rfl, rfl, ?_⟩
   refine tst c H' _ (List.mem_of_getElem? hc) hs fun H2 h2 => ?_
   refine iteB (fun hz' => ?_) fun hz' => ?_
   ·refine turn c H2 _ (List.mem_of_getElem? hc) hz' (hs.trans h2) fun H3 h3 => ?_
    have hfl := List.length_filter_le p (cl.take i)
    rw [List.length_take] at hfl
    refine ⟨_, h3 _ _ (h2 _ _ hl'), small1000 (by rw [List.length_map]; omega), ⟨_, _, _, rfl⟩, fun b u e => ?_, ?_⟩
    ·rw [upd_ne (ne_of_none e hl)]; exact h3 _ _ (h2 _ _ (hs _ _ e))
    ·rw [upd_same, et, if_pos hz', List.map_append]; rfl
   ·refine ⟨⟨_, _, _, rfl⟩, hs.trans h2, ?_⟩
    rw [et, if_neg (by rw [hz']; decide), List.append_nil]; exact h2 _ _ hl'
 ·rintro σ H' ⟨_, hs, hl'⟩
  rw [List.length_map, hlen, List.take_of_length_le (Nat.le_refl _)] at hl'
  exact hQ σ H' hs hl'
end L2
namespace M03
open PySem L2 PyProof.Rows
noncomputable abbrev sRights : Stmt := top 37
noncomputable def classBody (s : Stmt) : List Stmt := match s with | .ClassDef _ _ _ b _ _ _ _ _ _ _ => b | _ => []
noncomputable abbrev sInit : Stmt := (classBody (top 17)).getD 0 (.Pass ⟨0, 0, 0, 0⟩)
noncomputable def isR (i j s : Int) (c : C3) : Bool := (decide (i = c.1) || decide (j = c.1)) && decide (c.2.1 = s)
noncomputable def rt (cl : List C3) (i j s : Int) : Int := ((cl.filter (isR i j s)).map (·.2.2)).sum
noncomputable def spRights : Sp := fun vs H Q _ => ∃ a h s cl i j, vs = [.ref a, .ref h, .int s] ∧ ClT H a cl ∧ cl.length ≤ 12 ∧ (∀ c ∈ cl, 1 ≤ c.2.2 ∧ c.2.2 ≤ 20) ∧ H h = some (.tup [.int i, .int j]) ∧ ∀ H', Same H H' → Q (.int (rt cl i j s)) H'
noncomputable def spInit (C : Addr) : Sp := fun vs H Q _ => ∃ e t i j, vs = [.ref e, .int i, .int j] ∧ H e = some (exO e C t none) ∧ ∀ d, H d = none → d ≠ e → Q .non (upd (upd (upd H d (xdO d [("many", .int i)])) e (exO e C t (some d))) d (xdO d (putF "most" (.int j) [("many", .int i)])))
section
variable {P : Program} {w : World} {K : PySem.W.Frag} {mg : Str → Option Value} {base : Heap}
theorem scRights : FnScope ["claims", "holders", "sort"] ["claims", "holders", "sort"] (defScope sRights) := ⟨rfl, rfl, rfl, by decide +kernel, rfl, by decide +kernel, by decide +kernel⟩
theorem nd5r : (["holder", "other_sort", "many", "holders", "sort"] : List Str).Nodup := by decide +kernel
theorem ok_rights {f : Addr} {fd : FuncData} (F : Fun K "rights_of" "rights_of" sRights f fd) (T : Txt mg) : FnOk P w K mg base CX0 1 f fd ["claims", "holders", "sort"] spRights := by
 refine F.ok scRights (fun vs H Q E h => ?_) (fun cdv A outer s H vs Q E hr h => ?_)
 ·obtain ⟨a, h, s, cl, i, j, rfl, _⟩ := h; rfl
 ·obtain ⟨a, h, sr, cl, i, j, rfl, ⟨bs, ha, hC⟩, h12, hb, hh, q⟩ := h
  have hl : bs.length = cl.length := Paired.length hC
  refine ⟨_, pss_one (ps_ret (pe_callB (call_sumK rfl) rfl T.sum boot_sum (pa_lc (pe_comp1 (defScope sRights).names ["claims", "holders", "sort"] ["holder", "other_sort", "many"] [("holders", 1), ("sort", 2)] rfl (pi_tup (pv 0)) rfl rfl rfl (by decide +kernel)
   (fun Z => pg_tup rfl (pgs_cons (pg_name (i := 0) nd5r rfl (Or.inl rfl)) (pgs_cons (pg_name (i := 1) nd5r rfl (Or.inl rfl)) (pgs_cons (pg_name (i := 2) nd5r rfl (Or.inl rfl)) pgs_nil))))
   (fun Z => pts_one (PW.pt (pw_and (pt_cmpR (op_inD 0 (hu_of hr)) (pv 0) (pv 3) rfl) (pw_and1 (pt_cmpR op_eq (pv 1) (pv 4) (nomark _))))))
   (fun Z => pv 2)) pa_nil))), ?_⟩
  refine ⟨_, rfl, a, rfl, ⟨_, SqT.of ha⟩, fun Z l hl' => ?_⟩
  refine comp_clF (rest := [some (.ref h), some (.int sr)]) wk_tup (fun H' hs => SqT.of (hs _ _ ha)) hC hl' (by omega) (isR i j sr) (fun c => .int c.2.2) (fun c H' Q' hm hs hq => ?_) (fun c H' Q' hm _ hs hq => ⟨_, rfl, hq _ (Same.refl _)⟩) fun σ H1 hs1 hl1 => ?_
  ·refine ⟨_, rfl, _, rfl, h, [.int i, .int j], [decide (i = c.1), decide (j = c.1)], rfl, .inl (hs _ _ hh), ⟨EqD.int _ _ _, EqD.int _ _ _, trivial⟩, _, rfl, ?_⟩
   have e1 : [decide (i = c.1), decide (j = c.1)].any id = (decide (i = c.1) || decide (j = c.1)) := by simp
   have e2 : decide (V.int c.2.1 = V.int sr) = decide (c.2.1 = sr) := decide_eq_decide.mpr ⟨fun z => V.int.inj z, fun z => by rw [z]⟩
   show if ([decide (i = c.1), decide (j = c.1)].any id) = true then _ else _
   rw [e1]
   refine iteB (fun hz => ?_) fun hz => ?_
   ·refine ⟨_, rfl, _, rfl, rfl, _, rfl, ?_⟩
    rw [e2]
    have := hq H' (Same.refl _)
    unfold isR at this
    rw [hz, Bool.true_and] at this
    exact this
   ·have := hq H' (Same.refl _)
    unfold isR at this
    rw [hz, Bool.false_and] at this
    exact this
  ·have hfl := List.length_filter_le (isR i j sr) cl
   refine ⟨l, (cl.filter (isR i j sr)).map (fun c : C3 => c.2.2), rfl, SqL.of (by rw [hl1, List.map_map]; rfl), by rw [List.length_map]; omega, fun n hn => ?_, q H1 hs1⟩
   obtain ⟨c, hc, rfl⟩ := List.mem_map.mp hn
   have := hb c (List.mem_filter.mp hc).1
   omega
theorem scInit : FnScope ["self", "many", "most"] ["self", "many", "most"] (defScope sInit) := ⟨rfl, rfl, rfl, by decide +kernel, rfl, by decide +kernel, by decide +kernel⟩
theorem ok_init {f C : Addr} {fd : FuncData} (F : Fun K "__init__" "TooMany.__init__" sInit f fd) (c : ExcA K C) (n1 : NoAttr K C "many") (n2 : NoAttr K C "most") : FnOk P w K mg base CX0 1 f fd ["self", "many", "most"] (spInit C) := by
 refine F.ok scInit (fun vs H Q E h => ?_) (fun cdv A outer s H vs Q E hr h => ?_)
 ·obtain ⟨e, t, i, j, rfl, _⟩ := h; rfl
 ·obtain ⟨e, t, i, j, rfl, he, q⟩ := h
  refine ⟨_, pss_cons (ps_fldX (pv 0) (pv 1) rfl) (pss_one (ps_fldX (pv 0) (pv 2) rfl)), ?_⟩
  refine ⟨_, rfl, _, rfl, e, C, rfl, c, n1, .inl ⟨t, he, fun d hd hne => ?_⟩⟩
  refine ⟨_, rfl, _, rfl, e, C, rfl, c, n2, .inr ⟨t, d, [("many", .int i)], upd_same, by rw [upd_ne hne, upd_same], by show 1 < 1000; decide, ?_⟩⟩
  exact q d hd hne
end
end M03
namespace M03
open PySem L2 PyProof.Rows
noncomputable def isIJ (i j : Int) (c : C3) : Bool := decide (i = c.1) || decide (j = c.1)
noncomputable def keptL (cl : List C3) (i j : Int) : List C3 := cl.filter fun c => !isIJ i j c
noncomputable def sumsL (cl : List C3) (i j : Int) : List C3 := (List.range 6).map fun s : Nat => (i, (s : Int), rt cl i j (s : Int))
noncomputable def posL (cl : List C3) (i j : Int) : List C3 := (sumsL cl i j).filter fun c => decide (c.2.2 > 0)
noncomputable def joinL (cl : List C3) (i j : Int) : List C3 := keptL cl i j ++ posL cl i j
theorem rt_cons (c : C3) (cl : List C3) (i j s : Int) : rt (c :: cl) i j s = (if isR i j s c = true then c.2.2 else 0) + rt cl i j s := by
 unfold rt
 rw [List.filter_cons]
 by_cases h : isR i j s c = true
 ·rw [if_pos h, if_pos h, List.map_cons, List.sum_cons]
 ·rw [if_neg h, if_neg h]; omega
theorem rt_nonneg {cl : List C3} (h : ∀ c ∈ cl, 1 ≤ c.2.2) (i j s : Int) : 0 ≤ rt cl i j s := by
 induction cl with
 | nil => simp [rt]
 | cons c cl ih =>
  rw [rt_cons]
  have h0 := h c List.mem_cons_self
  have := ih fun d hd => h d (List.mem_cons_of_mem _ hd)
  split <;> omega
theorem rt_mem {cl : List C3} (h : ∀ c ∈ cl, 1 ≤ c.2.2) {i j s : Int} {c : C3} (hc : c ∈ cl) (hr : isR i j s c = true) : 1 ≤ rt cl i j s := by
 induction cl with
 | nil => cases hc
 | cons d cl ih =>
  rw [rt_cons]
  have hn := rt_nonneg (cl := cl) (fun d hd => h d (List.mem_cons_of_mem _ hd)) i j s
  have hd := h d List.mem_cons_self
  rcases List.mem_cons.mp hc with e | e
  ·subst e; rw [if_pos hr]; omega
  ·have := ih (fun d hd => h d (List.mem_cons_of_mem _ hd)) e
   split <;> omega
theorem rt_pos {cl : List C3} {i j s : Int} (h : 0 < rt cl i j s) : ∃ c ∈ cl, isR i j s c = true := by
 induction cl with
 | nil => simp [rt] at h
 | cons d cl ih =>
  by_cases hd : isR i j s d = true
  ·exact ⟨d, List.mem_cons_self, hd⟩
  ·rw [rt_cons, if_neg hd] at h
   obtain ⟨c, hc, hr⟩ := ih (by omega)
   exact ⟨c, List.mem_cons_of_mem _ hc, hr⟩
theorem range6 : List.range 6 = [0, 1, 2, 3, 4, 5] := rfl
theorem one_sort (k : Int) : ((List.range 6).filter fun s : Nat => decide (k = (s : Int))).length ≤ 1 := by
 rw [range6]
 by_cases h0 : k = 0
 ·subst h0; decide
 by_cases h1 : k = 1
 ·subst h1; decide
 by_cases h2 : k = 2
 ·subst h2; decide
 by_cases h3 : k = 3
 ·subst h3; decide
 by_cases h4 : k = 4
 ·subst h4; decide
 by_cases h5 : k = 5
 ·subst h5; decide
 simp [List.filter_cons, h0, h1, h2, h3, h4, h5]
theorem filter_or_len {α : Type} (p q : α → Bool) (l : List α) : (l.filter fun x => p x || q x).length ≤ (l.filter p).length + (l.filter q).length := by
 induction l with
 | nil => simp
 | cons x l ih =>
  rw [List.filter_cons, List.filter_cons, List.filter_cons]
  cases p x <;> cases q x <;> simp <;> omega
theorem sorts_len (i j : Int) : ∀ cl : List C3, ((List.range 6).filter fun s : Nat => cl.any (isR i j (s : Int))).length ≤ (cl.filter (isIJ i j)).length
 | [] => by simp
 | c :: cl => by
  have ih := sorts_len i j cl
  have e : ((List.range 6).filter fun s : Nat => (c :: cl).any (isR i j (s : Int))) = (List.range 6).filter fun s : Nat => isR i j (s : Int) c || cl.any (isR i j (s : Int)) := by
   congr 1
  rw [e]
  refine Nat.le_trans (filter_or_len _ _ _) ?_
  rw [List.filter_cons]
  by_cases h : isIJ i j c = true
  ·rw [if_pos h, List.length_cons]
   have e2 : ((List.range 6).filter fun s : Nat => isR i j (s : Int) c) = (List.range 6).filter fun s : Nat => decide (c.2.1 = (s : Int)) := by
    congr 1; funext s
    show (isIJ i j c && decide (c.2.1 = (s : Int))) = _
    rw [h, Bool.true_and]
   rw [e2]
   have := one_sort c.2.1
   omega
  ·rw [if_neg h]
   have hf : isIJ i j c = false := by simpa using h
   have e2 : ((List.range 6).filter fun s : Nat => isR i j (s : Int) c) = [] := by
    refine List.filter_eq_nil_iff.mpr fun s _ => ?_
    show ¬ (isIJ i j c && decide (c.2.1 = (s : Int))) = true
    rw [hf]; simp
   rw [e2, List.length_nil]
   omega
theorem posL_eq (cl : List C3) (i j : Int) : posL cl i j = ((List.range 6).filter fun s : Nat => decide (rt cl i j (s : Int) > 0)).map fun s : Nat => (i, (s : Int), rt cl i j (s : Int)) := by
 unfold posL sumsL
 rw [List.filter_map]
 rfl
theorem posL_len (cl : List C3) (i j : Int) : (posL cl i j).length ≤ (cl.filter (isIJ i j)).length := by
 rw [posL_eq, List.length_map]
 refine Nat.le_trans ?_ (sorts_len i j cl)
 have sub : ∀ l : List Nat, (l.filter fun s : Nat => decide (rt cl i j (s : Int) > 0)).length ≤ (l.filter fun s : Nat => cl.any (isR i j (s : Int))).length := fun l => by
  induction l with
  | nil => simp
  | cons s l ih =>
   rw [List.filter_cons, List.filter_cons]
   by_cases h : decide (rt cl i j (s : Int) > 0) = true
   ·have h2 : cl.any (isR i j (s : Int)) = true := by
     obtain ⟨c, hc, hr⟩ := rt_pos (of_decide_eq_true h)
     exact List.any_eq_true.mpr ⟨c, hc, hr⟩
    rw [if_pos h, if_pos h2, List.length_cons, List.length_cons]; omega
   ·rw [if_neg h]
    split
    ·rw [List.length_cons]; omega
    ·exact ih
 exact sub _
theorem filter_both {α : Type} (p : α → Bool) (l : List α) : (l.filter fun x => !p x).length + (l.filter p).length = l.length := by
 induction l with
 | nil => rfl
 | cons x l ih =>
  rw [List.filter_cons, List.filter_cons]
  cases p x <;> simp <;> omega
theorem joinL_len (cl : List C3) (i j : Int) : (joinL cl i j).length ≤ cl.length := by
 unfold joinL keptL
 rw [List.length_append]
 have := posL_len cl i j
 have := filter_both (isIJ i j) cl
 omega
theorem mem_posL {cl : List C3} {i j : Int} {c : C3} (h : c ∈ posL cl i j) : c.1 = i ∧ 0 ≤ c.2.1 ∧ c.2.1 ≤ 5 ∧ c.2.2 = rt cl i j c.2.1 ∧ 0 < c.2.2 := by
 rw [posL_eq] at h
 obtain ⟨s, hs, rfl⟩ := List.mem_map.mp h
 obtain ⟨h1, h2⟩ := List.mem_filter.mp hs
 have : s < 6 := List.mem_range.mp h1
 exact ⟨rfl, by show (0 : Int) ≤ (s : Int); omega, by show (s : Int) ≤ 5; omega, rfl, of_decide_eq_true h2⟩
theorem mem_keptL {cl : List C3} {i j : Int} {c : C3} : c ∈ keptL cl i j ↔ c ∈ cl ∧ i ≠ c.1 ∧ j ≠ c.1 := by
 unfold keptL isIJ
 rw [List.mem_filter]
 simp
theorem has_mem {cl : List C3} {i : Int} : hasH cl i = true ↔ ∃ c ∈ cl, c.1 = i := by
 unfold hasH
 rw [List.any_eq_true]
 constructor
 ·rintro ⟨c, hc, e⟩; exact ⟨c, hc, of_decide_eq_true e⟩
 ·rintro ⟨c, hc, e⟩; exact ⟨c, hc, decide_eq_true e⟩
theorem joinL_keys {cl : List C3} (G : ClOk cl) (i j : Int) : ((joinL cl i j).map key2).Nodup := by
 unfold joinL
 rw [List.map_append, List.nodup_append]
 refine ⟨((List.filter_sublist (p := fun c => !isIJ i j c) (l := cl)).map key2).nodup (keys_nodup G), ?_, fun x hx y hy e => ?_⟩
 ·rw [posL_eq, List.map_map, List.nodup_iff_pairwise_ne, List.pairwise_map]
  have nd : ((List.range 6).filter fun s : Nat => decide (rt cl i j (s : Int) > 0)).Nodup := List.Nodup.sublist List.filter_sublist List.nodup_range
  refine (List.nodup_iff_pairwise_ne.mp nd).imp fun {a b} hab e => hab ?_
  have := (Prod.mk.inj (show ((i, (a : Int)) : Int × Int) = (i, (b : Int)) from e)).2
  omega
 ·obtain ⟨c, hc, rfl⟩ := List.mem_map.mp hx
  obtain ⟨d, hd, rfl⟩ := List.mem_map.mp hy
  have h1 := (mem_keptL.mp hc).2.1
  have h2 := (mem_posL hd).1
  have h3 := (Prod.mk.inj (show ((c.1, c.2.1) : Int × Int) = (d.1, d.2.1) from e)).1
  omega
theorem joinL_num {cl : List C3} (G : ClOk cl) {i j : Int} (hi : hasH cl i = true) (h20 : ∀ s : Nat, s < 6 → rt cl i j (s : Int) ≤ 20) : ∀ c ∈ joinL cl i j, NumOk c := fun c hc => by
 rcases List.mem_append.mp hc with h | h
 ·exact G.num c (mem_keptL.mp h).1
 ·obtain ⟨e1, e2, e3, e4, e5⟩ := mem_posL h
  obtain ⟨d, hd, e⟩ := has_mem.mp hi
  have := (G.num d hd).1
  have h6 := h20 c.2.1.toNat (by omega)
  rw [Int.toNat_of_nonneg e2, ← e4] at h6
  exact ⟨by omega, by omega, by omega⟩
theorem joinL_one {cl : List C3} (G : ClOk cl) {i j : Int} (hi : hasH cl i = true) : ∃ c ∈ joinL cl i j, c.1 = i := by
 obtain ⟨d, hd, e⟩ := has_mem.mp hi
 have hn := G.num d hd
 have hr : isR i j d.2.1 d = true := by unfold isR; simp [e]
 have h1 := rt_mem (fun c hc => (G.num c hc).2.2.1) hd hr
 refine ⟨(i, d.2.1, rt cl i j d.2.1), List.mem_append.mpr (.inr ?_), rfl⟩
 rw [posL_eq]
 refine List.mem_map.mpr ⟨d.2.1.toNat, List.mem_filter.mpr ⟨List.mem_range.mpr (by omega), ?_⟩, ?_⟩
 ·rw [Int.toNat_of_nonneg hn.2.1.1]; exact decide_eq_true (by omega)
 ·rw [Int.toNat_of_nonneg hn.2.1.1]
end M03
namespace L2
open PySem PySem.Spec PyProof.Rows
section
variable {X : Cx} {x : Str} {z : Str} {j : Nat} {np p1 cpos pos : Pos} {C : Addr} {E : XK}
theorem ps_raiseD (hxe : X.xe = fun e s' => wpAny (model X.prog X.w) X.A (leaving X.env e) (fun _ s'' => CXD X.prog X.w X.outer X.H₀ X.s₀ E e s'') (fun e' s'' => CXD X.prog X.w X.outer X.H₀ X.s₀ E e' s'') s')
  (hs : X.stack = X.env :: X.outer) (hf : X.env.frame = some X.env.locals) (hex : X.ex = []) (hc : X.calm = true) (hg : Gl X x) (hm : X.mg x = some (.ref C)) (c : ExcC X.K C) (hd : (x == ("__debug__" : Str)) = false := by decide) :
  PS X (.Raise (some (.Call (.Name x np) [.Constant (.str z) j p1] [] cpos)) none pos) (fun _ _ H => E (.ref C) none H) := by
 intro pins s σ H D I h
 obtain ⟨bm, N, nm, q, bs, hdct, sn, sub, ab, col, dd, k0, k1, k2, k3, k5, mN, hC, hN, hni, T⟩ := c.obj I.ok.mod.kin
 refine wpAny_Raise_call_subT (C := C) (nm := nm) (q := q) (N := N) (bs := bs) (bm := bm) (hdct := hdct) (sn := sn) (sub := sub) (ab := ab) (col := col) (dd := dd) (k0 := k0) (k1 := k1) (k2 := k2) (k3 := k3) (k5 := k5) PySem.F.excBase_ValueError (mN := mN)
  (T.hasType PySem.F.excBase_ValueError.hasBase) (I.ok.hd hc) rfl hni (ld_glob I hg hm ⟨rfl, ?_⟩ hd)
 have ha : PA X [.Constant (.str z) j p1] (tCons (tC (.str z)) tNil) := pa_c pe_str pa_nil
 refine Calls.evalArgs_plain (thn (ha cpos pins s σ H (fun vs H' => H' = H ∧ vs = [.str z]) I ⟨rfl, rfl⟩) fun us s2 hA => ?_)
 obtain ⟨vs, H2, I2, rv, e1, e2⟩ := hA
 subst e1 e2
 have hl := rv.length
 refine ⟨rfl, ?_, I2.bk _ _ hC, hN.keeps I2.bk, T.keeps I2.bk, fun h' e hx => ?_⟩
 ·show us.length ≤ sizeLine
  rw [← hl]; show 1 ≤ sizeLine; decide
 ·rw [hxe]
  obtain ⟨t, he, _⟩ := hx.there
  refine wpAny_mono (KD.any (e := e) (d := none) KD.leaving ⟨_, he, rfl⟩ (raise_out (Q := fun _ s'' => ∃ h2, s'' = { s2 with heap := h2 } ∧ Fly X.prog X.w X.outer X.H₀ X.s₀ e (.ref C) H2 { s2 with heap := h2 }) I2 hs hf hex hx fun h2 F => ⟨h2, rfl, F⟩)) (fun _ s'' y => ?_) fun _ _ y => y
  obtain ⟨⟨h2, rfl, F⟩, hD⟩ := y
  exact ⟨e, .ref C, none, _, rfl, F, hD, h⟩
end
end L2
namespace L2
open PySem PyProof.Rows
theorem comp_clM {J : It} {S : Hp → Prop} {l : Addr} {bs : List Addr} {cl : List C3} {te : TE} {H0 : Hp} {rest : St} {Q : St → Hp → Prop} (W : Wk J (bs.map V.ref) S) (hS : ∀ H', Same H0 H' → S H') (hC : ClP H0 bs cl) (hl : H0 l = none) (hz : bs.length ≤ 1000) (f : C3 → V)
  (turn : ∀ b c H' Q', c ∈ cl → H' b = some (.tup [.int c.1, .int c.2.1, .int c.2.2]) → Same H0 H' → (∀ H2, Same H' H2 → Q' (f c) H2) → te (some (.ref b) :: rest) H' Q') (hQ : ∀ σ H', Same H0 H' → H' l = some (.lst (cl.map f)) → Q σ H') :
  tForJ J (gName 0) (tBodyC tAll (tEmit l te)) (eC Q) (none :: rest) (upd H0 l (.lst [])) := by
 have hlen : bs.length = cl.length := Paired.length hC
 refine W (fun i σ H' => (∃ x, σ = x :: rest) ∧ Same H0 H' ∧ H' l = some (.lst ((cl.take i).map f))) ⟨⟨_, rfl⟩, same_upd hl, by rw [upd_same]; rfl⟩ (fun i σ H' _ h => hS _ h.2.1) ?_ ?_
 ·rintro i x σ H' hx ⟨⟨x0, rfl⟩, hs, hl'⟩
  rw [List.getElem?_map] at hx
  cases hb : bs[i]? with
  | none => rw [hb] at hx; cases hx
  | some b =>
   rw [hb] at hx; cases hx
   obtain ⟨c, hc, he⟩ := hC.get hb
   show tEmit l te (some (.ref b) :: rest) H' _
   refine turn b c H' _ (List.mem_of_getElem? hc) (hs _ _ he) hs fun H2 h2 => ?_
   refine ⟨_, h2 _ _ hl', small1000 (by rw [List.length_map, List.length_take]; omega), ⟨_, rfl⟩, fun b u e => ?_, ?_⟩
   ·rw [upd_ne (ne_of_none e hl)]; exact h2 _ _ (hs _ _ e)
   ·rw [upd_same, List.take_succ, hc, List.map_append]; rfl
 ·rintro σ H' ⟨_, hs, hl'⟩
  rw [List.length_map, hlen, List.take_of_length_le (Nat.le_refl _)] at hl'
  exact hQ σ H' hs hl'
end L2
namespace M03
open PySem L2 PyProof.Rows
noncomputable abbrev xF (m most : Int) : List (Str × V) := putF "most" (.int most) [("many", .int m)]
noncomputable def kin (cl : List C3) (c : C3) : Bool := cl.any fun x => decide (key2 x = key2 c)
noncomputable def spLaid (CT cT : Addr) : Sp := fun vs H Q E => ∃ a b cl c, vs = [.ref a, .ref b] ∧ ClT H a cl ∧ ClOk cl ∧ H b = some (tupC c) ∧ NumOk c ∧
 (kin cl c = true → ∀ H', Same H H' → E (.ref cT) none H') ∧
 (kin cl c = false → cl.length = 12 → ∀ d H', Same H H' → H' d = some (xdO d (xF 13 12)) → E (.ref CT) (some d) H') ∧
 (kin cl c = false → cl.length < 12 → ∀ a' cl' H', Same H H' → ClT H' a' cl' → ClOk cl' → cl'.Perm (cl ++ [c]) → Q (.ref a') H')
noncomputable def spDenied (cM cC : Addr) : Sp := fun vs H Q E => ∃ a b cl c, vs = [.ref a, .ref b] ∧ ClT H a cl ∧ ClOk cl ∧ H b = some (tupC c) ∧ NumOk c ∧
 (c ∉ cl → ∀ H', Same H H' → E (.ref cM) none H') ∧
 (c ∈ cl → cl.length = 1 → ∀ H', Same H H' → E (.ref cC) none H') ∧
 (c ∈ cl → 2 ≤ cl.length → ∀ a' H', Same H H' → ClT H' a' (cl.filter fun x => decide (x ≠ c)) → Q (.ref a') H')
section
variable {P : Program} {w : World} {K : PySem.W.Frag} {mg : Str → Option Value} {base : Heap}
theorem scLaid : FnScope ["claims", "claim"] ["claims", "claim"] (defScope sLaid) := ⟨rfl, rfl, rfl, by decide +kernel, rfl, by decide +kernel, by decide +kernel⟩
theorem ndOC : (["one", "claim"] : List Str).Nodup := by decide +kernel
theorem ok_laid {f g1 g2 CT cT fi : Addr} {fd d1 d2 di : FuncData} (F : Fun K "laid" "laid" sLaid f fd) (T : Txt mg) (a1 : At P w K mg base 5 "check_claims" g1 d1 ["claims"] spChkClaims) (a2 : At P w K mg base 4 "check_claim" g2 d2 ["claim"] spChkClaim)
  (mH : mg "There" = some (.ref cT)) (eH : ExcC K cT) (mT : mg "TooMany" = some (.ref CT)) (M : ExcI K CT fi) (bI : L2.Binds K di ["self", "many", "most"] []) (oI : FnOk P w K mg base CX0 1 fi di ["self", "many", "most"] (spInit CT)) : FnOk P w K mg base (CXD P w) 6 f fd ["claims", "claim"] (spLaid CT cT) := by
 obtain ⟨t1, mC⟩ := T.claims
 refine F.okD scLaid (fun vs H Q E h => ?_) (fun cdv A outer s H vs Q E hr h => ?_)
 ·obtain ⟨a, b, cl, c, rfl, _⟩ := h; rfl
 ·obtain ⟨a, b, cl, c, rfl, hA, G, hb, hn, q1, q2, q3⟩ := h
  have hu := hu1_of hr
  refine ⟨_, pss_cons (ps_expr (pe_call a1.ok hr rfl a1.nm a1.kp a1.bd .nil pass0 (pa_v (pv 0) pa_nil))) <|
   pss_cons (ps_expr (pe_call a2.ok (hr.mono (by decide)) rfl a2.nm a2.kp a2.bd .nil pass0 (pa_v (pv 1) pa_nil))) <|
   pss_cons (ps_if (pt_val (pe_callB (call_any rfl) rfl T.any boot_any' (pa_lc (pe_comp1 (defScope sLaid).names ["claims", "claim"] ["one"] [("claim", 1)] rfl (pi_tup (pv 0)) rfl rfl rfl (by decide +kernel)
    (fun Z => pg_name (i := 0) ndOC rfl (Or.inl rfl)) (fun Z => pts_nil) (fun Z => pe_cmpR (op_eqD 1 hu) (pe_slice sl_tupU (pv 0) po_none (po_some pe_int)) (pe_slice sl_tupU (pv 1) po_none (po_some pe_int)) (nomark _))) pa_nil))) (pss_one (ps_raiseD (E := E) rfl rfl rfl rfl rfl rfl mH eH)) pss_nil) <|
   pss_cons (ps_if (pt_cmpR op_eq (pe_callB call_len_seq rfl T.len PySem.boot_len (pa_v (pv 0) pa_nil)) (pe_glob (v := .int 12) rfl mC ⟨_, rfl⟩) (nomark _))
    (pss_one (ps_raiseX (E := E) rfl rfl rfl rfl rfl (pe_makeX M oI (hr.mono (by decide)) rfl mT bI pass0 (pa_b (pe_op op_add (pe_callB call_len_seq rfl T.len PySem.boot_len (pa_v (pv 0) pa_nil)) pe_int) (pa_v (pe_glob (v := .int 12) rfl mC ⟨_, rfl⟩) pa_nil)) (by decide)))) pss_nil) <|
   pss_one (ps_ret (pe_callTy call_tuple_of rfl T.tuple boot_tuple (pa_k (pe_callB call_sortedU rfl T.sorted boot_sorted (pa_b (pe_op op_catU (pv 0) (pe_tup (pa_v (pv 1) pa_nil))) pa_nil)) pa_nil))), ?_⟩
  refine ⟨_, rfl, a, cl, rfl, hA, G, fun H1 s1 => ?_⟩
  refine ⟨_, rfl, b, c, rfl, s1 _ _ hb, hn, ?_⟩
  obtain ⟨bs, ha, hC⟩ := hA.ext s1.ext
  have hl : bs.length = cl.length := Paired.length hC
  have hb1 := s1 _ _ hb
  have h12 := G.l12
  refine ⟨_, rfl, a, rfl, ⟨_, SqT.of ha⟩, fun Z l hl0 => ?_⟩
  refine comp_clM (rest := [some (.ref b)]) wk_tup (fun H' hs => SqT.of (hs _ _ ha)) hC hl0 (by omega) (fun y => .bl (decide (key2 y = key2 c))) (fun b' y H' Q' hm he hs hq => ?_) fun σ H2 s2 hl2 => ?_
  ·refine ⟨_, rfl, _, rfl, b', _, rfl, he, fun p1 H3 s3 hp1 => ?_⟩
   refine ⟨_, rfl, _, rfl, b, _, rfl, s3 _ _ (hs _ _ hb1), fun p2 H4 s4 hp2 => ?_⟩
   refine ⟨p1, p2, [.int y.1, .int y.2.1], [.int c.1, .int c.2.1], [decide (y.1 = c.1), decide (y.2.1 = c.2.1)], rfl, rfl, .inl ⟨s4 _ _ hp1, hp2⟩, ⟨EqD.int _ _ _, EqD.int _ _ _, trivial⟩, ?_⟩
   have e : [decide (y.1 = c.1), decide (y.2.1 = c.2.1)].all id = decide (key2 y = key2 c) := by
    unfold key2
    rw [Bool.eq_iff_iff]
    simp [Prod.ext_iff]
   rw [e]
   exact hq _ (s3.trans s4)
  ·refine ⟨l, cl.map fun y => decide (key2 y = key2 c), rfl, SqL.of (by rw [hl2]; simp only [List.map_map]; rfl), _, rfl, ?_⟩
   rw [show (cl.map fun y => decide (key2 y = key2 c)).any id = kin cl c by rw [List.any_map]; rfl]
   refine iteB (fun hk => q1 hk _ (s1.trans s2)) fun hk => ?_
   have hk' : ∀ x ∈ cl, key2 x ≠ key2 c := fun x hx e => by
    have := List.any_eq_false.mp hk x hx
    simp [e] at this
   have ha2 := s2 _ _ ha
   refine ⟨_, rfl, a, _, rfl, .inr (SqT.of ha2), rfl, _, rfl, ite2d (fun hz => ?_) fun hz => ?_⟩
   ·have h12e : cl.length = 12 := by
     rw [List.length_map] at hz
     have := V.int.inj hz
     omega
    refine ⟨_, rfl, a, _, rfl, .inr (SqT.of ha2), _, _, rfl, rfl, fun x tt hx hn' => ⟨x, tt, _, _, rfl, upd_same, fun d hd hne => ⟨rfl, x, CT, fi, tt, some d, rfl, hn', M, by rw [upd_ne hne.symm, upd_same], ?_⟩⟩⟩
    rw [upd_ne hne] at hd
    have e13 : ((((bs.map V.ref).length : Nat) : Int) + 1) = 13 := by rw [List.length_map, hl, h12e]; rfl
    rw [e13]
    refine q2 hk h12e d _ (fun b o e => ?_) (by rw [dropH_ne hne, upd_same])
    have e0 := (s1.trans s2) _ _ e
    have b1 : b ≠ x := ne_of_none e0 hx
    have b2 : b ≠ d := ne_of_none e0 hd
    rw [dropH_ne b1, upd_ne b2, upd_ne b1, upd_ne b2, upd_ne b1]
    exact e0
   have hlt : cl.length < 12 := by
    have : ¬ cl.length = 12 := fun z => hz (by rw [List.length_map, hl, z]; rfl)
    omega
   have q := q3 hk hlt
   refine ⟨_, rfl, _, rfl, by show 1 ≤ sizeLine; decide, fun t ht => ?_⟩
   have s3 := same_upd (o := .tup [.ref b]) ht
   refine ⟨a, t, _, [.ref b], rfl, rfl, s3 _ _ ha2, upd_same, by rw [List.length_map, sizeLine_eq]; show _ + 1 ≤ _; omega, fun u H4 s4 hu4 => ?_⟩
   have sA := (s2.trans s3).trans s4
   obtain ⟨zs, z1, z2, z3⟩ := clP_zs (hC.ext sA.ext)
   refine ⟨u, zs ++ [(b, row c)], rfl, SqT.of (by rw [hu4, List.map_append, ← z1, List.map_map]; rfl), fun z hz => ?_, by rw [List.length_append]; have := congrArg List.length z2; rw [List.length_map, List.length_map] at this; show zs.length + 1 < 64; omega, fun l2 zs' hl3 hs2 => ?_⟩
   ·rcases List.mem_append.mp hz with y | y
    ·exact z3 z y
    ·rw [List.mem_singleton.mp y]
     exact ⟨sA _ _ hb1, by unfold row; simp⟩
   have hzr : (zs ++ [(b, row c)]).map (·.2) = (cl ++ [c]).map row := by rw [List.map_append, z2, List.map_append]; rfl
   obtain ⟨gO, gP, gR⟩ := clOk_of hzr hs2 (by rw [List.length_append]; show 1 ≤ cl.length + 1; omega) (by rw [List.length_append]; show cl.length + 1 ≤ 12; omega) (fun x hx => by
     rcases List.mem_append.mp hx with y | y
     ·exact G.num x y
     ·rw [List.mem_singleton.mp y]; exact hn) (by
    rw [List.map_append, List.nodup_append]
    refine ⟨keys_nodup G, by simp, fun x hx y hy e => ?_⟩
    obtain ⟨d, hd, rfl⟩ := List.mem_map.mp hx
    have hy' : y = key2 c := by simpa using hy
    exact hk' d hd (e.trans hy'))
   have s5 := same_upd (o := .lst (zs'.map fun z => V.ref z.1)) hl3
   refine ⟨l2, _, rfl, .inl ⟨SqL.of upd_same, fun a' ha' => ?_⟩⟩
   have s6 := same_upd (o := .tup (zs'.map fun z => V.ref z.1)) ha'
   refine q a' _ _ ((((s1.trans sA)).trans s5).trans s6) (clT_of upd_same fun z hz => ?_) gO gP
   have hm := hs2.1.mem_iff.mp hz
   rw [← gR z hz]
   rcases List.mem_append.mp hm with y | y
   ·exact s6 _ _ (s5 _ _ (z3 z y).1)
   ·rw [List.mem_singleton.mp y]; exact s6 _ _ (s5 _ _ (sA _ _ hb1))
theorem scDenied : FnScope ["claims", "claim"] ["claims", "claim"] (defScope sDenied) := ⟨rfl, rfl, rfl, by decide +kernel, rfl, by decide +kernel, by decide +kernel⟩
theorem ok_denied {f g1 g2 cM cC : Addr} {fd d1 d2 : FuncData} (F : Fun K "denied" "denied" sDenied f fd) (T : Txt mg) (a1 : At P w K mg base 5 "check_claims" g1 d1 ["claims"] spChkClaims) (a2 : At P w K mg base 4 "check_claim" g2 d2 ["claim"] spChkClaim)
  (mM : mg "Missing" = some (.ref cM)) (eM : ExcC K cM) (mC : mg "NoClaims" = some (.ref cC)) (eC' : ExcC K cC) : FnOk P w K mg base (CXD P w) 6 f fd ["claims", "claim"] (spDenied cM cC) := by
 refine F.okD scDenied (fun vs H Q E h => ?_) (fun cdv A outer s H vs Q E hr h => ?_)
 ·obtain ⟨a, b, cl, c, rfl, _⟩ := h; rfl
 ·obtain ⟨a, b, cl, c, rfl, hA, G, hb, hn, q1, q2, q3⟩ := h
  have hu := hu1_of hr
  refine ⟨_, pss_cons (ps_expr (pe_call a1.ok hr rfl a1.nm a1.kp a1.bd .nil pass0 (pa_v (pv 0) pa_nil))) <|
   pss_cons (ps_expr (pe_call a2.ok (hr.mono (by decide)) rfl a2.nm a2.kp a2.bd .nil pass0 (pa_v (pv 1) pa_nil))) <|
   pss_cons (ps_if (pt_cmpR (op_notInD 1 hu) (pv 1) (pv 0) rfl) (pss_one (ps_raiseD (E := E) rfl rfl rfl rfl rfl rfl mM eM)) pss_nil) <|
   pss_cons (ps_if (pt_cmpR op_eq (pe_callB call_len_seq rfl T.len PySem.boot_len (pa_v (pv 0) pa_nil)) pe_int (nomark _)) (pss_one (ps_raiseD (E := E) rfl rfl rfl rfl rfl rfl mC eC')) pss_nil) <|
   pss_one (ps_ret (pe_callTy call_tuple_of rfl T.tuple boot_tuple (pa_lc (pe_comp1 (defScope sDenied).names ["claims", "claim"] ["one"] [("claim", 1)] rfl (pi_tup (pv 0)) rfl rfl rfl (by decide +kernel)
    (fun Z => pg_name (i := 0) ndOC rfl (Or.inl rfl)) (fun Z => pts_one (pt_cmpR (op_neD 0 (hu_of hr)) (pv 0) (pv 1) (nomark _))) (fun Z => pv 0)) pa_nil))), ?_⟩
  refine ⟨_, rfl, a, cl, rfl, hA, G, fun H1 s1 => ?_⟩
  refine ⟨_, rfl, b, c, rfl, s1 _ _ hb, hn, ?_⟩
  obtain ⟨bs, ha, hC⟩ := hA.ext s1.ext
  have hl : bs.length = cl.length := Paired.length hC
  have h12 := G.l12
  have h1 := G.l1
  have hb1 := s1 _ _ hb
  refine ⟨_, rfl, _, rfl, a, _, _, rfl, .inl ha, e3_cl hb1 hC, _, rfl, ?_⟩
  have e1 : (cl.map fun y => eq3 y c).any id = decide (c ∈ cl) := by
   rw [List.any_map, Bool.eq_iff_iff, List.any_eq_true, decide_eq_true_eq]
   constructor
   ·rintro ⟨y, hy, e⟩
    have : eq3 y c = true := e
    rw [eq3_eq, decide_eq_true_eq] at this
    exact this ▸ hy
   ·intro h
    exact ⟨c, h, by show eq3 c c = true; rw [eq3_eq]; simp⟩
  rw [e1]
  refine iteB (fun z => q1 (by simpa using z) _ s1) fun z => ?_
  have hm : c ∈ cl := by simpa using z
  refine ⟨_, rfl, a, _, rfl, .inr (SqT.of ha), rfl, _, rfl, ite2d (fun hz => ?_) fun hz => ?_⟩
  ·rw [List.length_map] at hz
   have := V.int.inj hz
   exact q2 hm (by omega) _ s1
  have h2 : 2 ≤ cl.length := by
   have : ¬ cl.length = 1 := fun z => hz (by rw [List.length_map, hl, z]; rfl)
   omega
  have q := q3 hm h2
  refine ⟨_, rfl, a, rfl, ⟨_, SqT.of ha⟩, fun Z l hl' => ?_⟩
  refine comp_clN (fun x => decide (x ≠ c)) wk_tup (fun H' hs => SqT.of (hs _ _ ha)) hC hl' (by omega) (fun b' y H' Q' he hs hq => ?_) fun σ H' bs' hs hl2 hC2 => ?_
  ·refine ⟨_, rfl, _, rfl, b', b, _, _, _, rfl, rfl, .inl ⟨he, hs _ _ hb1⟩, e3_row y c, _, rfl, ?_⟩
   have ed : (!([decide (y.1 = c.1), decide (y.2.1 = c.2.1), decide (y.2.2 = c.2.2)].all id)) = decide (y ≠ c) := by
    show (!(eq3 y c)) = _
    rw [eq3_eq]; simp
   rw [ed]
   exact hq _ (Same.refl _)
  ·refine ⟨l, _, rfl, .inl ⟨SqL.of hl2, fun a' ha' => ?_⟩⟩
   have s3 := same_upd (o := .tup (bs'.map V.ref)) ha'
   exact q a' _ ((s1.trans hs).trans s3) ⟨bs', upd_same, Paired.mapP hC2 fun _ _ e => s3 _ _ e⟩
end
end M03
namespace M03
open PySem L2 PyProof.Rows
noncomputable abbrev sJoined : Stmt := top 38
noncomputable abbrev sTwo : Stmt := top 34
structure AtD (P : Program) (w : World) (K : PySem.W.Frag) (mg : Str → Option Value) (base : Heap) (k : Nat) (x : Str) (f : Addr) (fd : FuncData) (ps : List Str) (sp : Sp) : Prop where
 nm : mg x = some (.ref f)
 kp : PySem.W.keepIn K (.ref f) = true
 bd : L2.Binds K fd ps []
 ok : FnOk P w K mg base (CXD P w) k f fd ps sp
noncomputable def twoH (cl : List C3) (i j : Int) : Bool := hasH cl i && hasH cl j && decide (i ≠ j)
noncomputable def spChkHolder (cH : Addr) : Sp := fun vs H Q E => ∃ a cl i, vs = [.ref a, .int i] ∧ ClT H a cl ∧ cl.length ≤ 12 ∧ (hasH cl i = false → ∀ H', Same H H' → E (.ref cH) none H') ∧ (hasH cl i = true → ∀ H', Same H H' → Q .non H')
noncomputable def spTwo (cH : Addr) : Sp := fun vs H Q E => ∃ a cl i j, vs = [.ref a, .int i, .int j] ∧ ClT H a cl ∧ cl.length ≤ 12 ∧ (twoH cl i j = false → ∀ H', Same H H' → E (.ref cH) none H') ∧ (twoH cl i j = true → ∀ H', Same H H' → Q .non H')
noncomputable def spJoined (CT cH : Addr) : Sp := fun vs H Q E => ∃ a i j cl, vs = [.ref a, .int i, .int j] ∧ ClT H a cl ∧ ClOk cl ∧ (twoH cl i j = false → ∀ H', Same H H' → E (.ref cH) none H') ∧
 (twoH cl i j = true → ∀ d H' k, Same H H' → k < 6 → (∀ r : Nat, r < k → rt cl i j (r : Int) ≤ 20) → 20 < rt cl i j (k : Int) → H' d = some (xdO d (xF (rt cl i j (k : Int)) 20)) → E (.ref CT) (some d) H') ∧
 (twoH cl i j = true → (∀ r : Nat, r < 6 → rt cl i j (r : Int) ≤ 20) → ∀ a' cl' H', Same H H' → ClT H' a' cl' → ClOk cl' → cl'.Perm (joinL cl i j) → Q (.ref a') H')
noncomputable abbrev nJo : List Str := ["claims", "one", "other", "sums", "holder", "sort", "many", "kept"]
theorem sums_get (cl : List C3) (i j : Int) {k : Nat} (hk : k < 6) : (sumsL cl i j)[k]? = some (i, (k : Int), rt cl i j (k : Int)) := by
 unfold sumsL
 rw [List.getElem?_map, List.getElem?_range hk]
 rfl
section
variable {P : Program} {w : World} {K : PySem.W.Frag} {mg : Str → Option Value} {base : Heap}
theorem scJoined : FnScope nJo ["claims", "one", "other"] (defScope sJoined) := ⟨rfl, rfl, rfl, by decide +kernel, rfl, by decide +kernel, by decide +kernel⟩
theorem ndJ1 : (["sort", "claims", "one", "other"] : List Str).Nodup := by decide +kernel
theorem ndJ2 : (["claim", "one", "other"] : List Str).Nodup := by decide +kernel
theorem ndJ3 : (["claim"] : List Str).Nodup := by decide +kernel
theorem scTwo : FnScope ["claims", "one", "other"] ["claims", "one", "other"] (defScope sTwo) := ⟨rfl, rfl, rfl, by decide +kernel, rfl, by decide +kernel, by decide +kernel⟩
theorem scChkHolder : FnScope ["claims", "holder"] ["claims", "holder"] (defScope sChkHolder) := ⟨rfl, rfl, rfl, by decide +kernel, rfl, by decide +kernel, by decide +kernel⟩
theorem ok_chkHolder {f g1 cH : Addr} {fd d1 : FuncData} (F : Fun K "check_holder" "check_holder" sChkHolder f fd) (a1 : At P w K mg base 2 "is_holder" g1 d1 ["claims", "thing"] spIsHolder) (mH : mg "NoHolder" = some (.ref cH)) (eH : ExcC K cH) : FnOk P w K mg base (CXD P w) 3 f fd ["claims", "holder"] (spChkHolder cH) := by
 refine F.okD scChkHolder (fun vs H Q E h => ?_) (fun cdv A outer s H vs Q E hr h => ?_)
 ·obtain ⟨a, cl, i, rfl, _⟩ := h; rfl
 ·obtain ⟨a, cl, i, rfl, hA, h12, q1, q2⟩ := h
  refine ⟨_, pss_one (ps_if (pt_not (pt_val (pe_call a1.ok hr rfl a1.nm a1.kp a1.bd .nil pass0 (pa_v (pv 0) (pa_v (pv 1) pa_nil))))) (pss_one (ps_raiseD (E := E) rfl rfl rfl rfl rfl rfl mH eH)) pss_nil), ?_⟩
  refine ⟨_, rfl, _, rfl, a, cl, i, rfl, hA, h12, fun H' hs => ⟨_, rfl, ?_⟩⟩
  exact iteB (fun z => q1 (by simpa using z) H' hs) fun z => q2 (by simpa using z) H' hs
theorem ok_two {f g2 cH : Addr} {fd d2 : FuncData} (F : Fun K "check_two_holders" "check_two_holders" sTwo f fd) (a2 : AtD P w K mg base 3 "check_holder" g2 d2 ["claims", "holder"] (spChkHolder cH)) (mH : mg "NoHolder" = some (.ref cH)) (eH : ExcC K cH) : FnOk P w K mg base (CXD P w) 4 f fd ["claims", "one", "other"] (spTwo cH) := by
 refine F.okD scTwo (fun vs H Q E h => ?_) (fun cdv A outer s H vs Q E hr h => ?_)
 ·obtain ⟨a, cl, i, j, rfl, _⟩ := h; rfl
 ·obtain ⟨a, cl, i, j, rfl, hA, h12, q1, q2⟩ := h
  refine ⟨_, pss_cons (ps_expr (pe_call a2.ok hr rfl a2.nm a2.kp a2.bd .nil passD (pa_v (pv 0) (pa_v (pv 1) pa_nil)))) <|
   pss_cons (ps_expr (pe_call a2.ok hr rfl a2.nm a2.kp a2.bd .nil passD (pa_v (pv 0) (pa_v (pv 2) pa_nil)))) <|
   pss_one (ps_if (pt_cmpR op_eq (pv 1) (pv 2) (nomark _)) (pss_one (ps_raiseD (E := E) rfl rfl rfl rfl rfl rfl mH eH)) pss_nil), ?_⟩
  refine ⟨_, rfl, _, rfl, a, cl, i, rfl, hA, h12, fun hi H2 s2 => q1 (by unfold twoH; rw [hi]; rfl) _ s2, fun hi H2 s2 => ?_⟩
  refine ⟨_, rfl, _, rfl, a, cl, j, rfl, hA.ext s2.ext, h12, fun hj H3 s3 => q1 (by unfold twoH; rw [hi, hj]; rfl) _ (s2.trans s3), fun hj H3 s3 => ?_⟩
  exact ⟨_, rfl, _, rfl, rfl, _, rfl, ite2d (fun z => q1 (by unfold twoH; rw [hi, hj]; simp [V.int.inj z]) _ (s2.trans s3)) fun z => q2 (by unfold twoH; rw [hi, hj]; simp only [Bool.true_and, decide_eq_true_eq]; exact fun e => z (by rw [e])) H3 (s2.trans s3)⟩
theorem ok_joined {f g1 g2 g3 CT cH fi : Addr} {fd d1 d2 d3 di : FuncData} (F : Fun K "joined" "joined" sJoined f fd) (T : Txt mg) (a1 : At P w K mg base 5 "check_claims" g1 d1 ["claims"] spChkClaims) (a2 : AtD P w K mg base 4 "check_two_holders" g2 d2 ["claims", "one", "other"] (spTwo cH)) (a3 : At P w K mg base 1 "rights_of" g3 d3 ["claims", "holders", "sort"] spRights)
  (mT : mg "TooMany" = some (.ref CT)) (M : ExcI K CT fi) (bI : L2.Binds K di ["self", "many", "most"] []) (oI : FnOk P w K mg base CX0 1 fi di ["self", "many", "most"] (spInit CT)) : FnOk P w K mg base (CXD P w) 6 f fd ["claims", "one", "other"] (spJoined CT cH) := by
 obtain ⟨t1, mS⟩ := T.sorts
 obtain ⟨t2, mR⟩ := T.rights
 refine F.okD scJoined (fun vs H Q E h => ?_) (fun cdv A outer s H vs Q E hr h => ?_)
 ·obtain ⟨a, i, j, cl, rfl, _⟩ := h; rfl
 ·obtain ⟨a, i, j, cl, rfl, hA, G, q1, q2, q3⟩ := h
  have nd := scJoined.nd
  have hu := hu_of hr
  refine ⟨_, pss_cons (ps_expr (pe_call a1.ok hr rfl a1.nm a1.kp a1.bd .nil pass0 (pa_v (pv 0) pa_nil))) <|
   pss_cons (ps_expr (pe_call a2.ok (hr.mono (by decide)) rfl a2.nm a2.kp a2.bd .nil passD (pa_v (pv 0) (pa_v (pv 1) (pa_v (pv 2) pa_nil))))) <|
   pss_cons (ps_setC1 (i := 3) (defScope sJoined).names nJo ["sort"] [("claims", 0), ("one", 1), ("other", 2)] rfl nd rfl rfl (pi_range1 rfl T.range (pa_v (pe_glob (v := .int 6) rfl mS ⟨_, rfl⟩) pa_nil)) rfl rfl rfl (by decide +kernel)
    (fun Z => pg_name (i := 0) ndJ1 rfl (Or.inl rfl)) (fun Z => pts_nil)
    (fun Z => pe_tup (pa_v (pv 2) (pa_v (pv 0) (pa_k (pe_call a3.ok (hr.mono (by decide)) rfl a3.nm a3.kp a3.bd .nil pass0 (pa_v (pv 1) (pa_t (pe_tup (pa_v (pv 2) (pa_v (pv 3) pa_nil))) (pa_v (pv 0) pa_nil)))) pa_nil))))) <|
   pss_cons (ps_for PassesOwn.leaving rfl (pi_list (pv 3)) (pg_tup rfl (pgs_cons (pg_name (i := 4) nd rfl (Or.inl rfl)) (pgs_cons (pg_name (i := 5) nd rfl (Or.inl rfl)) (pgs_cons (pg_name (i := 6) nd rfl (Or.inl rfl)) pgs_nil))))
    (pss_one (ps_if (pt_cmpR op_gt (pv 6) (pe_glob (v := .int 20) rfl mR ⟨_, rfl⟩) (nomark _)) (pss_one (ps_raiseX (E := E) rfl rfl rfl rfl rfl (pe_makeX M oI (hr.mono (by decide)) rfl mT bI pass0 (pa_v (pv 6) (pa_v (pe_glob (v := .int 20) rfl mR ⟨_, rfl⟩) pa_nil)) (by decide)))) pss_nil))) <|
   pss_cons (ps_setC1 (i := 7) (defScope sJoined).names nJo ["claim"] [("one", 1), ("other", 2)] rfl nd rfl rfl (pi_tup (pv 0)) rfl rfl rfl (by decide +kernel)
    (fun Z => pg_name (i := 0) ndJ2 rfl (Or.inl rfl)) (fun Z => pts_one (pt_cmpR (op_notInD 0 hu) (pe_ix ix_tup (pv 0) pe_int (fun _ _ => rfl)) (pe_tup (pa_v (pv 1) (pa_v (pv 2) pa_nil))) rfl)) (fun Z => pv 0)) <|
   pss_one (ps_ret (pe_callTy call_tuple_of rfl T.tuple boot_tuple (pa_k (pe_callB call_sortedT rfl T.sorted boot_sorted (pa_b (pe_op op_cat (pv 7) (pe_comp1 (defScope sJoined).names nJo ["claim"] [] rfl (pi_list (pv 3)) rfl rfl rfl (by decide +kernel)
    (fun Z => pg_name (i := 0) ndJ3 rfl (Or.inl rfl)) (fun Z => pts_one (pt_cmpR op_gt (pe_ix ix_tup (pv 0) pe_int (fun _ _ => rfl)) pe_int (nomark _))) (fun Z => pv 0))) pa_nil)) pa_nil))), ?_⟩
  refine ⟨_, rfl, a, cl, rfl, hA, G, fun H1 s1 => ?_⟩
  refine ⟨_, rfl, _, rfl, _, rfl, a, cl, i, j, rfl, hA.ext s1.ext, G.l12, fun z H3 s3 => q1 z _ (s1.trans s3), fun htw H3 s3 => ?_⟩
  have hE := q2 htw
  have q := q3 htw
  have hi : hasH cl i = true := by unfold twoH at htw; simp only [Bool.and_eq_true] at htw; exact htw.1.1
  have s13 := s1.trans s3
  have hA3 := hA.ext s13.ext
  obtain ⟨bs, ha, hC⟩ := id hA3
  have hl : bs.length = cl.length := Paired.length hC
  have h12 := G.l12
  refine ⟨6, rfl, by decide, by decide, fun Z l hl0 => ?_⟩
  refine for_range (lo := 0) (n := 6) (fun k σ H' => (∃ o, σ = [o, some (.ref a), some (.int i), some (.int j)]) ∧ Same H3 H' ∧ ∃ ss : List Addr, H' l = some (.lst (ss.map V.ref)) ∧ ClP H' ss ((sumsL cl i j).take k)) ⟨⟨_, rfl⟩, same_upd hl0, [], by rw [upd_same]; rfl, .nil⟩ ?_ ?_
  ·rintro k σ H' hk ⟨⟨o, rfl⟩, hs, ss, hl2, hS⟩
   refine body_name ?_
   refine ⟨_, rfl, _, rfl, _, rfl, _, rfl, _, rfl, by show 2 ≤ sizeLine; decide, fun t ht => ?_⟩
   have t1 := same_upd (o := .tup [.int i, .int j]) ht
   refine ⟨_, rfl, a, t, _, cl, i, j, rfl, (hA3.ext hs.ext).ext t1.ext, h12, (fun c hc => (G.num c hc).2.2), upd_same, fun H5 s5 => ?_⟩
   refine ⟨by show 3 ≤ sizeLine; decide, fun u hu' => ?_⟩
   have t2 := same_upd (o := .tup [.int i, .int (0 + (k : Int)), .int (rt cl i j (0 + (k : Int)))]) hu'
   have sA := (t1.trans s5).trans t2
   have hl5 := sA _ _ hl2
   have hss : ss.length = min k 6 := by
    have := Paired.length hS
    rw [this, List.length_take]; unfold sumsL; rw [List.length_map, List.length_range]
   refine ⟨_, hl5, small1000 (by rw [List.length_map]; omega), ⟨_, rfl⟩, fun b o' e => ?_, ss ++ [u], ?_, ?_⟩
   ·rw [upd_ne (ne_of_none e hl0)]; exact sA _ _ (hs _ _ e)
   ·rw [upd_same, List.map_append]; rfl
   ·rw [List.take_succ, sums_get cl i j hk]
    have up : ∀ b xs, (upd H5 u (.tup [.int i, .int (0 + (k : Int)), .int (rt cl i j (0 + (k : Int)))])) b = some (.tup xs) → (upd (upd H5 u (.tup [.int i, .int (0 + (k : Int)), .int (rt cl i j (0 + (k : Int)))])) l (.lst (ss.map V.ref ++ [.ref u]))) b = some (.tup xs) := fun b xs e => by
     rw [upd_ne (fun z => by rw [z, hl5] at e; cases e)]; exact e
    refine Paired.snoc (Paired.mapP hS fun _ _ e => up _ _ (sA _ _ e)) ?_
    have e0 : (0 + (k : Int)) = (k : Int) := by omega
    have := up u _ upd_same
    rw [e0] at this ⊢
    exact this
  rintro σ H4 ⟨_, s4, ss, hl4, hS⟩
  have hsl : ss.length = 6 := by
   have := Paired.length hS
   rw [this, List.length_take]; unfold sumsL; rw [List.length_map, List.length_range]; rfl
  rw [List.take_of_length_le (by unfold sumsL; rw [List.length_map, List.length_range]; exact Nat.le_refl _)] at hS
  have s04 := s13.trans s4
  have ha4 := s4 _ _ ha
  have hC4 := hC.ext s4.ext
  refine ⟨_, rfl, l, rfl, ⟨_, SqL.of hl4⟩, ?_⟩
  refine for_list (K := K) (a := l) (xs := ss.map V.ref) (fun k σ H' => (∃ o4 o5 o6 o7, σ = [some (.ref a), some (.int i), some (.int j), some (.ref l), o4, o5, o6, o7]) ∧ H' = H4 ∧ ∀ r : Nat, r < k → rt cl i j (r : Int) ≤ 20)
   ⟨⟨_, _, _, _, rfl⟩, rfl, fun r hr => by omega⟩ (fun k σ H' _ h => by rw [h.2.1]; exact SqL.of hl4) ?_ ?_
  ·rintro k x σ H' hx ⟨⟨o4, o5, o6, o7, rfl⟩, rfl, h20⟩
   rw [List.getElem?_map] at hx
   cases hb : ss[k]? with
   | none => rw [hb] at hx; cases hx
   | some u =>
    rw [hb] at hx; cases hx
    obtain ⟨c, hc, he⟩ := hS.get hb
    have hk : k < 6 := by
     have := (List.getElem?_eq_some_iff.mp hb).1
     omega
    rw [sums_get cl i j hk] at hc
    obtain rfl := Option.some.inj hc
    refine ⟨u, _, rfl, SqT.of he, rfl, _, _, rfl, _, _, rfl, _, _, rfl, rfl, ?_⟩
    refine ⟨_, rfl, _, _, rfl, rfl, _, rfl, ite2d (fun hgt => ?_) fun hle => ?_⟩
    ·refine ⟨_, rfl, fun x tt hx hn => ⟨x, tt, _, _, rfl, upd_same, fun d hd hne => ⟨rfl, x, CT, fi, tt, some d, rfl, hn, M, by rw [upd_ne hne.symm, upd_same], ?_⟩⟩⟩
     rw [upd_ne hne] at hd
     refine hE d _ k (fun b o e => ?_) hk h20 hgt (by rw [dropH_ne hne, upd_same])
     have e0 := s04 _ _ e
     have b1 : b ≠ x := ne_of_none e0 hx
     have b2 : b ≠ d := ne_of_none e0 hd
     rw [dropH_ne b1, upd_ne b2, upd_ne b1, upd_ne b2, upd_ne b1]
     exact e0
    ·refine ⟨⟨_, _, _, _, rfl⟩, rfl, fun r hr => ?_⟩
     by_cases z : r = k
     ·subst z
      have h9 : ¬ (20 : Int) < rt cl i j (r : Int) := hle
      omega
     ·exact h20 r (by omega)
  rintro σ H' ⟨⟨o4, o5, o6, o7, rfl⟩, rfl, h20⟩
  rw [List.length_map, hsl] at h20
  refine ⟨_, rfl, a, rfl, ⟨_, SqT.of ha4⟩, fun Z2 l2 hl2 => ?_⟩
  refine comp_clN (fun c => !isIJ i j c) wk_tup (fun H' hs => SqT.of (hs _ _ ha4)) hC4 hl2 (by omega) (fun b y Hk Q' he hs hq => ?_) fun σ H5 bs' s5 hk5 hC5 => ?_
  ·refine ⟨_, rfl, b, _, 0, .int y.1, rfl, rfl, SqT.of he, atI_nat (j := 0) rfl, _, rfl, _, rfl, by show 2 ≤ sizeLine; decide, fun t ht => ?_⟩
   refine ⟨t, [.int i, .int j], [decide (i = y.1), decide (j = y.1)], rfl, .inl upd_same, ⟨EqD.int _ _ _, EqD.int _ _ _, trivial⟩, _, rfl, ?_⟩
   have ed : (!([decide (i = y.1), decide (j = y.1)].any id)) = !isIJ i j y := by unfold isIJ; simp
   rw [ed]
   exact hq _ (same_upd ht)
  have hl5 := s5 _ _ hl4
  have hS5 := hS.ext s5.ext
  refine ⟨_, rfl, _, rfl, l, rfl, ⟨_, SqL.of hl5⟩, fun Z3 l3 hl3 => ?_⟩
  refine comp_clN (fun c => decide (c.2.2 > 0)) wk_list (fun H' hs => SqL.of (hs _ _ hl5)) hS5 hl3 (by omega) (fun b y Hk Q' he hs hq => ?_) fun σ H6 bp s6 hp6 hC6 => ?_
  ·exact ⟨_, rfl, b, _, 2, .int y.2.2, rfl, rfl, SqT.of he, atI_nat (j := 2) rfl, _, _, rfl, rfl, _, rfl, hq _ (Same.refl _)⟩
  have hk6 := s6 _ _ hk5
  have hC56 := ClP.ext hC5 s6.ext
  have lk : bs'.length = (keptL cl i j).length := Paired.length hC5
  have lp : bp.length = (posL cl i j).length := Paired.length hC6
  have lj := joinL_len cl i j
  unfold joinL at lj
  rw [List.length_append] at lj
  refine ⟨l2, l3, _, _, rfl, rfl, hk6, hp6, by rw [List.length_map, List.length_map, sizeLine_eq]; omega, fun l7 hl7 => ?_⟩
  have s7 := same_upd (o := .lst (bs'.map V.ref ++ bp.map V.ref)) hl7
  obtain ⟨z1, x1, x2, x3⟩ := clP_zs (ClP.ext hC56 s7.ext)
  obtain ⟨z2, y1, y2, y3⟩ := clP_zs (ClP.ext hC6 s7.ext)
  have hzr : (z1 ++ z2).map (·.2) = (joinL cl i j).map row := by unfold joinL; rw [List.map_append, x2, y2, List.map_append]; rfl
  have hzl : (z1 ++ z2).length = (joinL cl i j).length := by
   have := congrArg List.length hzr
   rwa [List.length_map, List.length_map] at this
  have lj2 := joinL_len cl i j
  refine ⟨l7, z1 ++ z2, rfl, SqL.of (by rw [upd_same, List.map_append, ← x1, ← y1, List.map_map, List.map_map]; rfl), fun z hz => ?_, by omega, fun l8 zs' hl8 hs2 => ?_⟩
  ·rcases List.mem_append.mp hz with y | y
   ·exact x3 z y
   ·exact y3 z y
  obtain ⟨c1, hc1, _⟩ := joinL_one G hi (j := j)
  obtain ⟨gO, gP, gR⟩ := clOk_of hzr hs2 (List.length_pos_of_mem hc1) (by omega) (joinL_num G hi h20) (joinL_keys G i j)
  have s8 := same_upd (o := .lst (zs'.map fun z => V.ref z.1)) hl8
  refine ⟨l8, _, rfl, .inl ⟨SqL.of upd_same, fun a' ha' => ?_⟩⟩
  have s9 := same_upd (o := .tup (zs'.map fun z => V.ref z.1)) ha'
  refine q h20 a' _ _ (((((s04.trans s5).trans s6).trans s7).trans s8).trans s9) (clT_of upd_same fun z hz => ?_) gO gP
  have hm := hs2.1.mem_iff.mp hz
  rw [← gR z hz]
  rcases List.mem_append.mp hm with y | y
  ·exact s9 _ _ (s8 _ _ (x3 z y).1)
  ·exact s9 _ _ (s8 _ _ (y3 z y).1)
end
end M03
namespace L2
open PySem PySem.Spec PyProof.Rows
section
variable {X : Cx}
theorem vbools_of : ∀ {bs : List Bool} {us : List Value}, Vals (bs.map V.bl) us → us = bs.map Value.bool
 | [], _, h => by cases h; rfl
 | b :: bs, _, h => by
  cases h with
  | cons a1 a2 => rw [show _ = Value.bool b from a1, vbools_of a2]; rfl
noncomputable def isT : Value → Bool | .bool b => b | _ => false
theorem eqT_at {pins : List (Addr × Obj)} {σ : St} {H : Hp} {s : Shared} (I : Inv X pins σ H s) (hu : X.A.units + 1 < cLine) (b : Bool) : SeqAt.EqAt X.A.in1 s (.bool b) (.bool true) b := by
 cases b with
 | true => exact SeqAt.EqAt.same _
 | false => exact SeqAt.EqAt.bool_bool false true
noncomputable def rCountT : V → List V → Hp → VK → Prop := fun x vs H Q => ∃ l bs, x = .ref l ∧ vs = [.bl true] ∧ H l = some (.lst ((bs : List Bool).map V.bl)) ∧ Q (.int (bs.countP id : Nat)) H
theorem mt_countT (hu : X.A.units + 1 < cLine) : MtM X "list.count" rCountT := by
 intro pins s σ H x vs v us Q I rx rv h
 obtain ⟨l, bs, rfl, rfl, hH, q⟩ := h
 cases rx
 obtain ⟨u, rfl, ru⟩ := rv.one
 obtain rfl : u = Value.bool true := ru
 obtain ⟨z, its, m, r, hl, e⟩ := I.lstM hH
 have hb := vbools_of r
 subst hb
 refine call_meets F.slot_list_count ⟨_, e, rfl⟩ F.entry_list_count (F.args_list_count_2 _ _) (SeqAt.list_countAt l (bs.map Value.bool).toArray m none #[] (.bool true) isT) ⟨e, fun w hw => ?_, ?_⟩
 ·have hw' : w ∈ bs.map Value.bool := by simpa using hw
  obtain ⟨b, _, rfl⟩ := List.mem_map.mp hw'
  exact eqT_at I hu b
 ·refine ⟨.int (bs.countP id : Nat), H, I.tok _, ⟨s.toks, ?_⟩, q⟩
  have : (bs.map Value.bool).countP isT = bs.countP id := by rw [List.countP_map]; rfl
  show Value.int (((bs.map Value.bool).countP isT : Nat) : Int) _ = _
  rw [this]
noncomputable def rIndexT : V → List V → Hp → VK → Prop := fun x vs H Q => ∃ l bs j, x = .ref l ∧ vs = [.bl true] ∧ H l = some (.lst ((bs : List Bool).map V.bl)) ∧ bs[j]? = some true ∧ (∀ i, i < j → bs[i]? = some false) ∧ j < 1000 ∧ Q (.int (j : Nat)) H
theorem mt_indexT (hu : X.A.units + 1 < cLine) : MtM X "list.index" rIndexT := by
 intro pins s σ H x vs v us Q I rx rv h
 obtain ⟨l, bs, j, rfl, rfl, hH, hj, hno, hz, q⟩ := h
 cases rx
 obtain ⟨u, rfl, ru⟩ := rv.one
 obtain rfl : u = Value.bool true := ru
 obtain ⟨z, its, m, r, hl, e⟩ := I.lstM hH
 have hb := vbools_of r
 subst hb
 have jl : j < bs.length := (List.getElem?_eq_some_iff.mp hj).1
 refine call_meets F.slot_list_index ⟨_, e, rfl⟩ F.entry_list_index (F.args_list_index_2 _ _) (SeqAt.list_indexAt l (bs.map Value.bool).toArray m none #[] (.bool true) isT j (by simpa using jl) (by omega) ?_ fun i hi hij => ?_) ⟨e, fun w hw => ?_, ?_⟩
 ·have := (List.getElem?_eq_some_iff.mp hj).2
  simp [isT, this]
 ·have hb : i < bs.length := by simpa using hi
  have := (List.getElem?_eq_some_iff.mp (hno i hij)).2
  simp [isT, this]
 ·have hw' : w ∈ bs.map Value.bool := by simpa using hw
  obtain ⟨b, _, rfl⟩ := List.mem_map.mp hw'
  exact eqT_at I hu b
 ·exact ⟨.int (j : Nat), H, I.tok _, ⟨_, rfl⟩, q⟩
end
end L2
namespace L2
open PySem PySem.Spec PyProof.Rows Builtin Builtin.Str
theorem vals_strs : ∀ (l : List (Str × Tok)), Vals ((l.map (·.1)).map V.str) (strValues l)
 | [] => .nil
 | (x, t) :: l => .cons ⟨t, rfl⟩ (vals_strs l)
section
variable {X : Cx}
noncomputable def rSplit : V → List V → Hp → VK → Prop := fun x xs H Q => ∃ a b : Str, x = .str a ∧ xs = [.str b] ∧ (b.length == 0) = false ∧ a.length ≤ sizeLine ∧ (partsBetween a (occurrences a b 0 a.length (a.length + 1)) b.length).length ≤ sizeLine ∧ ∀ l, H l = none → Q (.ref l) (upd H l (.lst ((Txt.split a b).map V.str)))
theorem mt_split : MtR X "str.split" rSplit := by
 intro pins s σ H x xs v us Q I rx rv h
 obtain ⟨a, b, rfl, rfl, hy, hsz, hsz2, q⟩ := h
 obtain ⟨t, rfl⟩ := rx
 obtain ⟨u0, rfl, ru⟩ := rv.one
 obtain ⟨u, rfl⟩ := ru
 have key : ∀ (l : List (Str × Tok)) (tk : Tok), l.map (·.1) = Txt.split a b → l.length ≤ sizeLine →
   EP X pins σ Q (.ref s.heap.objs.size) { s with toks := tk, heap := s.heap.push { cls := .type "list", data := .seq (strValues l).toArray } } := fun l tk e hl => by
  refine ⟨.ref _, _, I.laid (t' := tk) (o := .lst ((Txt.split a b).map V.str)) (fun b ob q => Heap.get?_push_of_some _ q) (Nat.le_refl _) ⟨?_, strValues l, 0, ?_, Heap.get?_push_size _ rfl⟩, rfl, q _ (I.hok.fresh (Nat.le_refl _))⟩
  ·rw [← e, List.length_map, List.length_map]; exact hl
  ·rw [← e]; exact vals_strs l
 cases h1 : (decide (a.length < b.length) || decide (strKind a < strKind b))
 ·cases hf : (occurrences a b 0 a.length (a.length + 1)).isEmpty
  ·refine call_meets F.slot_str_split (typeIs_str _ _ _) F.entry_str_split (F.args_str_split_2 _ _) (meets_str_split_sep a b t u h1 hy hf hsz hsz2) ?_
   show wants _ _ _ { s with toks := _, heap := s.heap.push { cls := .type "list", data := .seq (strsFrom s.toks (partsBetween a (occurrences a b 0 a.length (a.length + 1)) b.length)).toArray } }
   rw [strsFrom_eq]
   refine key (numbered s.toks _) _ ((numbered_texts _ _).trans ((if_neg (ne_true_of_eq_false h1)).trans (if_neg (ne_true_of_eq_false hf))).symm) ?_
   have := congrArg List.length (numbered_texts s.toks (partsBetween a (occurrences a b 0 a.length (a.length + 1)) b.length))
   rw [List.length_map] at this
   rw [this]; exact hsz2
  ·exact call_meets F.slot_str_split (typeIs_str _ _ _) F.entry_str_split (F.args_str_split_2 _ _) (meets_str_split_not_found a b t u h1 hy hf)
    (key [(a, t)] s.toks ((if_neg (ne_true_of_eq_false h1)).trans (if_pos hf)).symm (by show 1 ≤ sizeLine; decide))
 ·exact call_meets F.slot_str_split (typeIs_str _ _ _) F.entry_str_split (F.args_str_split_2 _ _) (meets_str_split_cannot_occur a b t u h1)
   (key [(a, t)] s.toks (if_pos h1).symm (by show 1 ≤ sizeLine; decide))
end
end L2
namespace L2
open PySem PySem.Spec PyProof.Rows PySem.W
structure FnOkP (P : Program) (w : World) (K : PySem.W.Frag) (mg : Str → Option Value) (base : Heap) (k : Nat) (f : Addr) (fd : FuncData) (ps : List Str) (sp : Addr → Obj → List V → Hp → VK → Prop) : Prop where
 len : ∀ e oe vs H Q, sp e oe vs H Q → vs.length = ps.length
 run : ∀ (A : Around) (outer : List Env) (s : Shared) (H : Hp) (args : Args) (us : List Value) (vs : List V) (Q : VK) (E : XK) (e : Addr) (oe : Obj), Room k A → Env0 P w K mg base (A.mark (some (.ref e))) outer s H → BindsTo s fd args (ps.zip us) → Vals vs us →
  s.heap.get? e = some oe → H e = none → e ∉ frs outer → (∀ v, oe.data ≠ .cell v) → sp e oe vs H Q → codeAny (model P w) (A.mark (some (.ref e))) (.call (.ref f) args) (CR CX0 outer P w H s Q E) s
section
variable {P : Program} {w : World} {K : PySem.W.Frag} {mg : Str → Option Value} {base : Heap}
theorem Fun.okPin {x qual : Str} {st : Stmt} {f : Addr} {fd : FuncData} {N ps : List Str} {k : Nat} {sp : Addr → Obj → List V → Hp → VK → Prop} (F : Fun K x qual st f fd) (S : FnScope N ps (defScope st)) (len : ∀ e oe vs H Q, sp e oe vs H Q → vs.length = ps.length)
  (hbody : ∀ (cdv : Value) (A : Around) (outer : List Env) (s : Shared) (H : Hp) (vs : List V) (Q : VK) (E : XK) (e : Addr) (oe : Obj), Room k (A.deeper (envOfC qual (defScope st) s.heap.objs.size f cdv)) → sp e oe vs H Q →
   ∃ t, PSs ((cxOf CX0 P w K mg base N qual (defScope st) f cdv A outer s H E).nox.within e oe) (defBody st) t ∧ t { nx := fun _ H' => Q .non H', rt := Q } (start N vs) H) : FnOkP P w K mg base (k + 1) f fd ps sp := by
 obtain ⟨oc, od, kV, doc, pm, an, cdv, ct, osl, rfl, lk, hcd⟩ := F.ex
 refine ⟨len, fun A outer s H args us vs Q E e oe hr e0 hb r he hn hfr hnc hsp => ?_⟩
 have e0' : Env0 P w K mg base A outer s H := ⟨e0.frames, e0.mod, e0.bs, e0.bsz, e0.funs, e0.frf, e0.hok, e0.bare⟩
 have hl := len _ _ _ _ _ hsp
 have KX : K.In s.heap := e0.mod.kin.keeps fun b o e => (e0.bs b o e).1
 have lim : s.heap.NoLimit := e0.mod.nolimit.keeps fun b o e => (e0.bs b o e).1
 have hkind : ∀ z ∈ ps.zip us, (defScope st).names.lookup z.1 = some .local ∨ ((defScope st).names.lookup z.1 = some .cell ∧ ((cellsFrom (s.heap.objs.size + 1) (defScope st).names []).lookup z.1).isSome = true) := fun ⟨n, v⟩ hy => by
  rcases S.par n (List.of_mem_zip hy).1 with q | q
  ·exact .inl q
  ·exact .inr ⟨q, PySem.W.cellsFrom_some _ _ _ (.inl q)⟩
 have hdp : (A.mark (some (.ref e))).depth < recursionLimit := hr.depth
 refine codeAny_call_function hdp (KX _ _ lk) rfl S.co S.gen rfl (PySem.W.codeRec_of KX hcd) (hb _ _ _ _ ?_)
 refine wpAny_newFunctionEnv_cells S.kind hkind fun env he' s1 x => ?_
 subst he'
 refine ⟨lim.keeps x.toInCall.keep, codeAny_func ?_⟩
 obtain ⟨t, ht, hq⟩ := hbody cdv A outer s H vs Q E e oe (hr.deeper _) hsp
 have I : Inv (cxOf CX0 P w K mg base N qual (defScope st) f cdv A outer s H E) [] (start N vs) H s1 := inv_start S hr.hd e0' hl r x
 have I2 : Inv ((cxOf CX0 P w K mg base N qual (defScope st) f cdv A outer s H E).nox.within e oe) [] (start N vs) H s1 := Inv.within (I.wish _) (x.toInCall.keep _ _ he) hn (fun z => by
   have := Heap.lt_size he
   rw [show e = s.heap.objs.size from z] at this
   exact absurd this (Nat.lt_irrefl _)) hfr hnc
 refine wpAny_mono (ht [] s1 (start N vs) H _ I2 hq) (fun fl s' hs => ?_) fun e s' hs => hs.elim
 have fin : ∀ {σ' : St} {H' : Hp} {v : V} {u : Value}, Inv ((cxOf CX0 P w K mg base N qual (defScope st) f cdv A outer s H E).nox.within e oe) [] σ' H' s' → RelV v u → Q v H' → CE outer P w H s Q u s' :=
  fun {σ' H' v u} J rv q => ⟨v, H', J.os, J.bare, J.base, J.hok, rv, q⟩
 cases fl with
 | ret u =>
  obtain ⟨v, σ', H', J, rv, q⟩ := hs
  exact fin J rv q
 | next =>
  obtain ⟨σ', H', J, q⟩ := hs
  exact fin (v := V.non) (u := Value.none) J rfl q
 | brk =>
  obtain ⟨_, _, _, q⟩ := hs
  exact False.elim q
 | cont =>
  obtain ⟨_, _, _, q⟩ := hs
  exact False.elim q
end
theorem pe_callP {X : Cx} {g : Addr} {gd : FuncData} {k : Nat} {x : Str} {ps : List Str} {sp : Addr → Obj → List V → Hp → VK → Prop} {e : Addr} {oe : Obj} {a : Expr} {es : List Expr} {t : TA} {p pos : Pos} (F : FnOkP X.prog X.w X.K X.mg X.base k g gd ps sp) (hr : Room k X.A) (hg : Gl X x) (hm : X.mg x = some (.ref g)) (hk : keepIn X.K (.ref g) = true) (hb : Binds X.K gd ps [])
  (ha : PA (X.within e oe) (a :: es) t) (hdb : (x == ("__debug__" : Str)) = false := by decide) (he : starEach (a :: es) X.env = (false, eval a X.env) :: starEach es X.env := by rfl) (hpl : (backTo pos (starEach es X.env)).any (·.1) = false := by rfl) :
  PE (X.within e oe) (.Call (.Name x p) (a :: es) [] pos) (fun σ H Q => t σ H fun vs H1 => sp e oe vs H1 Q) := by
 intro pins s σ H Q I h
 refine wpAny_Call_Name_kw (ld_glob I hg hm ?_ hdb)
 refine PySem.W.callWith_K (h₀ := X.base) I.ok.mod.kin hk (thn (ha pos pins s σ H _ I h) fun us s1 ⟨vs, H1, I1, r, q⟩ => ⟨I1.kIn, ?_⟩) he hpl
 obtain ⟨p1, p2, p3, p4, p5⟩ := I1.pin (e, oe) (List.mem_append_left _ List.mem_cons_self)
 have hl : us.length = ps.length := r.length.symm.trans (F.len _ _ _ _ _ q)
 refine wpAny_call (codeAny_mono (F.run X.A X.stack s1 H1 ⟨us, []⟩ us vs Q E0 e oe hr I1.env0 (by have := hb s1 us I1.kIn (by simpa using hl); simpa using this) r p1 p2 (fun z => (List.mem_cons.mp (I1.stkSub e z)).elim p3 p4) p5 q) fun r s' hq => ?_)
 cases r with
 | error e => exact False.elim hq
 | ok fl =>
  cases fl with
  | ret u => exact I1.after hq
  | next => exact False.elim hq
  | brk => exact False.elim hq
  | cont => exact False.elim hq
end L2
namespace M03
open PySem L2 PyProof.Rows
noncomputable abbrev sWord : Stmt := top 46
structure Names (mg : Str → Option Value) (c : Nat → Addr) : Prop where
 m0 : mg "NoMead" = some (.ref (c 0))
 m1 : mg "NoPlace" = some (.ref (c 1))
 m2 : mg "NoLand" = some (.ref (c 2))
 m3 : mg "NoCustom" = some (.ref (c 3))
 m4 : mg "NoClaim" = some (.ref (c 4))
 m5 : mg "NoClaims" = some (.ref (c 5))
 m6 : mg "NoHolder" = some (.ref (c 6))
 m7 : mg "There" = some (.ref (c 7))
 m8 : mg "Missing" = some (.ref (c 8))
 m9 : mg "NoPlea" = some (.ref (c 9))
 m10 : mg "NoParting" = some (.ref (c 10))
 m11 : mg "NoWill" = some (.ref (c 11))
 m12 : mg "NoHouses" = some (.ref (c 12))
 m13 : mg "NoOdd" = some (.ref (c 13))
 m14 : mg "NoUndo" = some (.ref (c 14))
 m15 : mg "TooMany" = some (.ref (c 15))
structure ClsW (K : PySem.W.Frag) (c : Nat → Addr) (cE D : Addr) (j : Nat) : Prop where
 d : ExcD K D
 x : PySem.W.exmOne K (.ref D) (.ref cE) = some true
 lt : j < 16
 k : ∀ i, i < 16 → PySem.W.kitOne K (.ref D) (.ref (c i)) = some (decide (i = j))
 v : PySem.W.kitOne K (.ref D) (.type "ValueError") = some true
noncomputable def words : List Str := ["mead", "place", "land", "custom", "claim", "claims", "holder", "there", "missing", "plea", "parting", "will", "houses", "odd", "undo", "many"]
noncomputable def wd (j : Nat) : Str := words.getD j ""
noncomputable def kinds : Str := "mead place land custom claim claims holder there missing plea parting will houses odd undo many"
theorem split_kinds : Txt.split kinds " " = words := by decide +kernel
noncomputable def mk (j : Nat) : List Bool := [decide (0 = j), decide (1 = j), decide (2 = j), decide (3 = j), decide (4 = j), decide (5 = j), decide (6 = j), decide (7 = j), decide (8 = j), decide (9 = j), decide (10 = j), decide (11 = j), decide (12 = j), decide (13 = j), decide (14 = j), decide (15 = j)]
theorem mk_count : ∀ j, j < 16 → (mk j).countP id = 1 := by decide
theorem mk_at : ∀ j, j < 16 → (mk j)[j]? = some true := by decide
theorem mk_no : ∀ j, j < 16 → ∀ i, i < j → (mk j)[i]? = some false := by decide
theorem wd_at : ∀ j, j < 16 → words[j]? = some (wd j) := by decide
noncomputable def spWord (K : PySem.W.Frag) (c : Nat → Addr) (cE : Addr) : Addr → Obj → List V → Hp → VK → Prop := fun e oe vs H Q => ∃ D j, vs = [.ref e] ∧ oe.cls = .ref D ∧ ClsW K c cE D j ∧ ∀ H', Same H H' → Q (.str (wd j)) H'
section
variable {P : Program} {w : World} {K : PySem.W.Frag} {mg : Str → Option Value} {base : Heap}
noncomputable abbrev nWord : List Str := ["_law_e", "_law_marks", "_law_kinds"]
theorem scWord : FnScope nWord ["_law_e"] (defScope sWord) := ⟨rfl, rfl, rfl, by decide +kernel, rfl, by decide +kernel, by decide +kernel⟩
theorem boot_ve : bootBuiltins "ValueError" = some (.type "ValueError") := by decide +kernel
theorem ok_word {f cE : Addr} {c : Nat → Addr} {fd : FuncData} (F : Fun K "_law_word" "_law_word" sWord f fd) (T : Txt mg) (N : Names mg c) : FnOkP P w K mg base 2 f fd ["_law_e"] (spWord K c cE) := by
 have nd := scWord.nd
 refine F.okPin scWord (fun e oe vs H Q h => ?_) (fun cdv A outer s H vs Q E e oe hr h => ?_)
 ·obtain ⟨D, j, rfl, _⟩ := h; rfl
 ·obtain ⟨D, j, rfl, hc, cD, q⟩ := h
  have hu : (A.deeper (envOfC "_law_word" (defScope sWord) s.heap.objs.size f cdv)).units + 1 < cLine := hu_of hr
  refine ⟨_, pss_cons (ps_set (i := 1) nd rfl (Or.inl rfl) (pe_lst (pa_k (pe_callB (call_isinstX cD.d) rfl T.isinstance boot_isinstance (pa_v (pv 0) (pa_v (pe_glob (v := .ref (c 0)) rfl N.m0 rfl) pa_nil))) (pa_k (pe_callB (call_isinstX cD.d) rfl T.isinstance boot_isinstance (pa_v (pv 0) (pa_v (pe_glob (v := .ref (c 1)) rfl N.m1 rfl) pa_nil))) (pa_k (pe_callB (call_isinstX cD.d) rfl T.isinstance boot_isinstance (pa_v (pv 0) (pa_v (pe_glob (v := .ref (c 2)) rfl N.m2 rfl) pa_nil))) (pa_k (pe_callB (call_isinstX cD.d) rfl T.isinstance boot_isinstance (pa_v (pv 0) (pa_v (pe_glob (v := .ref (c 3)) rfl N.m3 rfl) pa_nil))) pa_nil)))))) <|
   pss_cons (ps_set (i := 1) nd rfl (Or.inl rfl) (pe_op op_cat (pv 1) (pe_lst (pa_k (pe_callB (call_isinstX cD.d) rfl T.isinstance boot_isinstance (pa_v (pv 0) (pa_v (pe_glob (v := .ref (c 4)) rfl N.m4 rfl) pa_nil))) (pa_k (pe_callB (call_isinstX cD.d) rfl T.isinstance boot_isinstance (pa_v (pv 0) (pa_v (pe_glob (v := .ref (c 5)) rfl N.m5 rfl) pa_nil))) (pa_k (pe_callB (call_isinstX cD.d) rfl T.isinstance boot_isinstance (pa_v (pv 0) (pa_v (pe_glob (v := .ref (c 6)) rfl N.m6 rfl) pa_nil))) (pa_k (pe_callB (call_isinstX cD.d) rfl T.isinstance boot_isinstance (pa_v (pv 0) (pa_v (pe_glob (v := .ref (c 7)) rfl N.m7 rfl) pa_nil))) pa_nil))))))) <|
   pss_cons (ps_set (i := 1) nd rfl (Or.inl rfl) (pe_op op_cat (pv 1) (pe_lst (pa_k (pe_callB (call_isinstX cD.d) rfl T.isinstance boot_isinstance (pa_v (pv 0) (pa_v (pe_glob (v := .ref (c 8)) rfl N.m8 rfl) pa_nil))) (pa_k (pe_callB (call_isinstX cD.d) rfl T.isinstance boot_isinstance (pa_v (pv 0) (pa_v (pe_glob (v := .ref (c 9)) rfl N.m9 rfl) pa_nil))) (pa_k (pe_callB (call_isinstX cD.d) rfl T.isinstance boot_isinstance (pa_v (pv 0) (pa_v (pe_glob (v := .ref (c 10)) rfl N.m10 rfl) pa_nil))) (pa_k (pe_callB (call_isinstX cD.d) rfl T.isinstance boot_isinstance (pa_v (pv 0) (pa_v (pe_glob (v := .ref (c 11)) rfl N.m11 rfl) pa_nil))) pa_nil))))))) <|
   pss_cons (ps_set (i := 1) nd rfl (Or.inl rfl) (pe_op op_cat (pv 1) (pe_lst (pa_k (pe_callB (call_isinstX cD.d) rfl T.isinstance boot_isinstance (pa_v (pv 0) (pa_v (pe_glob (v := .ref (c 12)) rfl N.m12 rfl) pa_nil))) (pa_k (pe_callB (call_isinstX cD.d) rfl T.isinstance boot_isinstance (pa_v (pv 0) (pa_v (pe_glob (v := .ref (c 13)) rfl N.m13 rfl) pa_nil))) (pa_k (pe_callB (call_isinstX cD.d) rfl T.isinstance boot_isinstance (pa_v (pv 0) (pa_v (pe_glob (v := .ref (c 14)) rfl N.m14 rfl) pa_nil))) (pa_k (pe_callB (call_isinstX cD.d) rfl T.isinstance boot_isinstance (pa_v (pv 0) (pa_v (pe_glob (v := .ref (c 15)) rfl N.m15 rfl) pa_nil))) pa_nil))))))) <|
   pss_cons (ps_if (PW.pt (pw_or (pt_cmpR op_ne (pe_bm PySem.F.plainAttrs_list PySem.F.slot_list_count PySem.F.type_list_count (mt_countT hu) (pv 1) (pa_c pe_bl pa_nil)) pe_int (nomark _))
     (pw_or1 (pt_not (pt_val (pe_callB (call_isinstX cD.d) rfl T.isinstance boot_isinstance (pa_v (pv 0) (pa_v (pe_bltn (v := .ty "ValueError") rfl T.verr boot_ve rfl) pa_nil)))))))) (pss_one (ps_ret pe_str)) pss_nil) <|
   pss_cons (ps_set (i := 2) nd rfl (Or.inl rfl) pe_str) <|
   pss_one (ps_ret (pe_ix ix_list (pe_bm PySem.F.plainAttrs_str PySem.F.slot_str_split PySem.F.type_str_split mt_split (pv 2) (pa_c pe_str pa_nil)) (pe_bm PySem.F.plainAttrs_list PySem.F.slot_list_index PySem.F.type_list_index (mt_indexT hu) (pv 1) (pa_c pe_bl pa_nil)) (fun _ _ => rfl))), ?_⟩
  refine ⟨_, rfl, hc, .inl ⟨c 0, _, rfl, cD.k 0 (by decide), ?_⟩⟩
  refine ⟨_, rfl, hc, .inl ⟨c 1, _, rfl, cD.k 1 (by decide), ?_⟩⟩
  refine ⟨_, rfl, hc, .inl ⟨c 2, _, rfl, cD.k 2 (by decide), ?_⟩⟩
  refine ⟨_, rfl, hc, .inl ⟨c 3, _, rfl, cD.k 3 (by decide), ?_⟩⟩
  refine ⟨by show 4 ≤ sizeLine; decide, fun l0 hl0 => ?_⟩
  have s0 := same_upd (o := .lst [.bl (decide (0 = j)), .bl (decide (1 = j)), .bl (decide (2 = j)), .bl (decide (3 = j))]) hl0
  refine ⟨_, rfl, ?_⟩
  refine ⟨_, rfl, hc, .inl ⟨c 4, _, rfl, cD.k 4 (by decide), ?_⟩⟩
  refine ⟨_, rfl, hc, .inl ⟨c 5, _, rfl, cD.k 5 (by decide), ?_⟩⟩
  refine ⟨_, rfl, hc, .inl ⟨c 6, _, rfl, cD.k 6 (by decide), ?_⟩⟩
  refine ⟨_, rfl, hc, .inl ⟨c 7, _, rfl, cD.k 7 (by decide), ?_⟩⟩
  refine ⟨by show 4 ≤ sizeLine; decide, fun l1 hl1 => ?_⟩
  have s1 := same_upd (o := .lst [.bl (decide (4 = j)), .bl (decide (5 = j)), .bl (decide (6 = j)), .bl (decide (7 = j))]) hl1
  refine ⟨l0, l1, _, _, rfl, rfl, s1 _ _ upd_same, upd_same, by show 4 + 4 ≤ sizeLine; decide, fun m1 hm1 => ?_⟩
  have r1 := same_upd (o := .lst [.bl (decide (0 = j)), .bl (decide (1 = j)), .bl (decide (2 = j)), .bl (decide (3 = j)), .bl (decide (4 = j)), .bl (decide (5 = j)), .bl (decide (6 = j)), .bl (decide (7 = j))]) hm1
  refine ⟨_, rfl, ?_⟩
  refine ⟨_, rfl, hc, .inl ⟨c 8, _, rfl, cD.k 8 (by decide), ?_⟩⟩
  refine ⟨_, rfl, hc, .inl ⟨c 9, _, rfl, cD.k 9 (by decide), ?_⟩⟩
  refine ⟨_, rfl, hc, .inl ⟨c 10, _, rfl, cD.k 10 (by decide), ?_⟩⟩
  refine ⟨_, rfl, hc, .inl ⟨c 11, _, rfl, cD.k 11 (by decide), ?_⟩⟩
  refine ⟨by show 4 ≤ sizeLine; decide, fun l2 hl2 => ?_⟩
  have s2 := same_upd (o := .lst [.bl (decide (8 = j)), .bl (decide (9 = j)), .bl (decide (10 = j)), .bl (decide (11 = j))]) hl2
  refine ⟨m1, l2, _, _, rfl, rfl, s2 _ _ upd_same, upd_same, by show 8 + 4 ≤ sizeLine; decide, fun m2 hm2 => ?_⟩
  have r2 := same_upd (o := .lst [.bl (decide (0 = j)), .bl (decide (1 = j)), .bl (decide (2 = j)), .bl (decide (3 = j)), .bl (decide (4 = j)), .bl (decide (5 = j)), .bl (decide (6 = j)), .bl (decide (7 = j)), .bl (decide (8 = j)), .bl (decide (9 = j)), .bl (decide (10 = j)), .bl (decide (11 = j))]) hm2
  refine ⟨_, rfl, ?_⟩
  refine ⟨_, rfl, hc, .inl ⟨c 12, _, rfl, cD.k 12 (by decide), ?_⟩⟩
  refine ⟨_, rfl, hc, .inl ⟨c 13, _, rfl, cD.k 13 (by decide), ?_⟩⟩
  refine ⟨_, rfl, hc, .inl ⟨c 14, _, rfl, cD.k 14 (by decide), ?_⟩⟩
  refine ⟨_, rfl, hc, .inl ⟨c 15, _, rfl, cD.k 15 (by decide), ?_⟩⟩
  refine ⟨by show 4 ≤ sizeLine; decide, fun l3 hl3 => ?_⟩
  have s3 := same_upd (o := .lst [.bl (decide (12 = j)), .bl (decide (13 = j)), .bl (decide (14 = j)), .bl (decide (15 = j))]) hl3
  refine ⟨m2, l3, _, _, rfl, rfl, s3 _ _ upd_same, upd_same, by show 12 + 4 ≤ sizeLine; decide, fun m3 hm3 => ?_⟩
  have r3 := same_upd (o := .lst [.bl (decide (0 = j)), .bl (decide (1 = j)), .bl (decide (2 = j)), .bl (decide (3 = j)), .bl (decide (4 = j)), .bl (decide (5 = j)), .bl (decide (6 = j)), .bl (decide (7 = j)), .bl (decide (8 = j)), .bl (decide (9 = j)), .bl (decide (10 = j)), .bl (decide (11 = j)), .bl (decide (12 = j)), .bl (decide (13 = j)), .bl (decide (14 = j)), .bl (decide (15 = j))]) hm3
  refine ⟨_, rfl, .inl ⟨rfl, _, SqL.of upd_same⟩, m3, mk j, rfl, rfl, upd_same, rfl, _, rfl, ?_⟩
  rw [mk_count j cD.lt]
  refine iteF ?_
  refine ⟨_, rfl, hc, .inr ⟨"ValueError", true, rfl, cD.v, _, rfl, iteF ?_⟩⟩
  refine ⟨_, rfl, rfl, kinds, " ", rfl, rfl, by decide, by decide +kernel, by decide +kernel, fun l5 hl5 => ?_⟩
  rw [split_kinds]
  have s5 := same_upd (o := .lst (words.map V.str)) hl5
  refine ⟨_, rfl, .inl ⟨rfl, _, SqL.of (s5 _ _ upd_same)⟩, m3, mk j, j, rfl, rfl, s5 _ _ upd_same, mk_at j cD.lt, mk_no j cD.lt, Nat.lt_trans cD.lt (by decide), ?_⟩
  exact ⟨l5, _, _, .str (wd j), rfl, rfl, SqL.of upd_same, atI_nat (by rw [List.getElem?_map, wd_at j cD.lt]; rfl), q _ (((((((s0.trans s1).trans r1).trans s2).trans r2).trans s3).trans r3).trans s5)⟩
end
end M03
namespace L2
open PySem PySem.Spec PyProof.Rows PySem.W
structure LamAt (h : Heap) (H : Hp) (f : Addr) (qual : Str) (params : Arguments) (body : Expr) (scope : Scope) (cl : List (Str × Addr)) (pm ctv : Value) (c' : Addr) : Prop where
 fn : h.get? f = some (kla_obj "<lambda>" qual params body scope cl pm c' ctv)
 code : h.CodeRec (.ref c') qual
 cells : ∀ x c, cl.lookup x = some c → (∃ v, h.IsCell c v) ∧ H c = none
section
variable {P : Program} {w : World} {K : PySem.W.Frag} {mg : Str → Option Value} {base : Heap} {N : List Str} {qual : Str} {scope : Scope} {f c' : Addr} {cl : List (Str × Addr)} {A : Around} {outer : List Env} {s : Shared} {H : Hp} {E : XK} {Q : VK} {params : Arguments} {body : Expr} {pm ctv : Value}
end
end L2
namespace L2
open PySem PySem.Spec PyProof.Rows PySem.W
structure FnOkS (P : Program) (w : World) (K : PySem.W.Frag) (mg : Str → Option Value) (base : Heap) (k : Nat) (f : Addr) (fd : FuncData) (ps : List Str) (sp : List Env → List V → Hp → Heap → VK → Prop) : Prop where
 len : ∀ o vs H h Q, sp o vs H h Q → vs.length = ps.length
 run : ∀ (A : Around) (outer : List Env) (s : Shared) (H : Hp) (args : Args) (us : List Value) (vs : List V) (Q : VK) (E : XK), Room k A → Env0 P w K mg base A outer s H → BindsTo s fd args (ps.zip us) → Vals vs us → sp outer vs H s.heap Q →
  codeAny (model P w) A (.call (.ref f) args) (CR CX0 outer P w H s Q E) s
section
variable {P : Program} {w : World} {K : PySem.W.Frag} {mg : Str → Option Value} {base : Heap}
end
theorem pe_callL {X : Cx} {CX : CXT} {E : XK} {i : Nat} {x : Str} {p pos : Pos} (hN : X.N[i]? = some x) (hv : Vis X.env.scope x) (hp : Passes CX X E) (hd : (x == ("__debug__" : Str)) = false := by decide) (hcd : (x == ("__classdict__" : Str)) = false := by decide) :
  PE X (.Call (.Name x p) [] [] pos) (fun σ H Q => ∃ f, σ[i]? = some (some (.ref f)) ∧ ∀ (pins : List (Addr × Obj)) (s : Shared), Inv X pins σ H s → FnAt f s.heap ∧ codeAny (model X.prog X.w) X.A (.call (.ref f) ⟨[], []⟩) (CR CX X.stack X.prog X.w H s Q E) s) := by
 intro pins s σ H Q I h
 obtain ⟨f, e, h⟩ := h
 refine wpAny_Call_Name_kw (thn (pe_var (pos := p) hN hv hd hcd pins s σ H (fun v H' => v = .ref f ∧ H' = H) I ⟨.ref f, e, rfl, rfl⟩) fun u s1 ⟨v, H1, I1, r, ev, eH⟩ => ?_)
 subst ev eH
 cases (show u = Value.ref f from r)
 obtain ⟨hF, hc⟩ := h pins s1 I1
 refine callWith_F0 hF (wpAny_call (codeAny_mono hc fun r s' hq => ?_))
 cases r with
 | error e => exact hp pins σ _ s1 e s' I1 hq
 | ok fl =>
  cases fl with
  | ret u => exact I1.after hq
  | next => exact False.elim hq
  | brk => exact False.elim hq
  | cont => exact False.elim hq
end L2
namespace L2
open PySem PySem.Spec PyProof.Rows PySem.W
noncomputable def cdO (c' : Addr) (qual : Str) : HO := .ext fun h => ∃ o vs t, h.get? c' = some o ∧ o.data = .fields vs ∧ vs[1]? = some (.str qual t)
structure TabI (H : Hp) (P : Addr) (ps : Array Value) (qual : Str) (poss : List Pos) : Prop where
 at' : H P = some (.tbl ps)
 tr : TriplesOk ps.toList
 cd : ∀ pos ∈ poss, codeAmong pos ps.toList = none ∨ ∃ c', codeAmong pos ps.toList = some (.ref c') ∧ H c' = some (cdO c' qual)
noncomputable def Grow (P : Addr) (H H1 : Hp) : Prop := ∀ b u, b ≠ P → H b = some u → H1 b = some u
noncomputable def BMain (mg : Str → Option Value) (h : Heap) : Prop := ∃ bm ob, mg "__builtins__" = some (.ref bm) ∧ bm ≠ builtinsNs ∧ h.get? bm = some ob ∧ ob.cls = .type "module" ∧ ob.dict = some builtinsNs ∧ ob.data = .plain
theorem among_snoc {pos pos' : Pos} {c : Value} {t1 t2 : Tok} : ∀ {l : List Value}, TriplesOk l → codeAmong pos (l ++ [.int pos'.line t1, .int pos'.col t2, c]) = match codeAmong pos l with | some d => some d | none => if (((pos'.line : Int) == (pos.line : Int) && (pos'.col : Int) == (pos.col : Int)) : Bool) = true then some c else none
 | [], _ => rfl
 | .int a ta :: .int b tb :: d :: r, h => by
  have ih := among_snoc (pos := pos) (pos' := pos') (c := c) (t1 := t1) (t2 := t2) (l := r) h
  show (if (a == (pos.line : Int) && b == (pos.col : Int)) = true then some d else codeAmong pos (r ++ [.int pos'.line t1, .int pos'.col t2, c])) = match (if (a == (pos.line : Int) && b == (pos.col : Int)) = true then some d else codeAmong pos r) with | some d => some d | none => _
  by_cases hh : (a == (pos.line : Int) && b == (pos.col : Int)) = true
  ·rw [if_pos hh, if_pos hh]
  ·rw [if_neg hh, if_neg hh]; exact ih
theorem triples_snoc {l : List Value} {a b : Int} {t1 t2 : Tok} {c : Value} : TriplesOk l → TriplesOk (l ++ [.int a t1, .int b t2, c]) := by
 intro h
 match l, h with
 | [], _ => trivial
 | .int _ _ :: .int _ _ :: d :: r, h => exact triples_snoc (l := r) h
section
variable {X : Cx} {pins : List (Addr × Obj)} {σ : St} {H : Hp} {s : Shared} {P c : Addr} {ps : Array Value} {qual : Str} {poss : List Pos} {params : Arguments} {body : Expr} {scope : Scope} {pos : Pos} {Q : Value → Shared → Prop}
end
end L2
namespace L2
open PySem PySem.Spec PyProof.Rows PySem.W
section
variable {X : Cx} {g P c : Addr} {gd : FuncData} {k i : Nat} {pn x y : Str} {sp : List Env → List V → Hp → Heap → VK → Prop} {qual : Str} {poss : List Pos} {params : Arguments} {body : Expr} {scope : Scope} {pos p cpos : Pos}
end
end L2
namespace L2
open PySem PySem.Spec PyProof.Rows PySem.W
section
variable {X : Cx} {pins : List (Addr × Obj)} {σ : St} {H : Hp} {s : Shared} {P c : Addr} {ps : Array Value} {qual : Str} {poss : List Pos} {params : Arguments} {body : Expr} {scope : Scope} {pos : Pos} {Q : Value → Shared → Prop}
end
structure LamTN (X : Cx) (c P : Addr) (qual : Str) (poss : List Pos) (params : Arguments) (body : Expr) (scope : Scope) (pos : Pos) (ys : List Str) : Prop where
 hs : X.stack = X.env :: X.outer
 hf : X.env.frame = some X.env.locals
 hfn : X.fn = fun _ => true
 hcode : X.env.code = .ref c
 C : CodeHd X.base c P
 bm : BMain X.mg X.base
 hpos : pos ∈ poss
 hap : ∀ q ∈ poss, q ≠ pos → ((((pos.line : Nat) : Int) == ((q.line : Nat) : Int) && ((pos.col : Nat) : Int) == ((q.col : Nat) : Int)) : Bool) = false
 hq : X.env.qual ++ "<lambda>" = qual
 hdef : defaultsOf params X.env = ([], [])
 hbind : ∀ cl pm c' ctv, bindArgs (kla_fn "<lambda>" qual params body scope cl pm (.ref c') ctv) ⟨[], []⟩ = pure []
 hco : scope.isCoroutine = false
 hgen : scope.isGenerator = false
 hk : scope.kind = .function
 hcell : ∀ x ∈ scope.names, x.2 ≠ .cell
 hfree : ∀ x ∈ scope.names, x.2 = .free → x.1 ∈ ys
 hys : ∀ y ∈ ys, scope.names.lookup y = some .free ∧ X.env.scope.names.lookup y = some .cell
section
variable {X : Cx} {g P c : Addr} {gd : FuncData} {k : Nat} {pn x : Str} {ys : List Str} {sp : List Env → List V → Hp → Heap → VK → Prop} {qual : Str} {poss : List Pos} {params : Arguments} {body : Expr} {scope : Scope} {pos p cpos : Pos}
end
end L2
namespace L2
open PySem PySem.Spec PyProof.Rows PySem.W
noncomputable def cxLamD (P : Program) (w : World) (K : PySem.W.Frag) (mg : Str → Option Value) (base : Heap) (N : List Str) (qual : Str) (scope : Scope) (f : Addr) (cd : Value) (cl : List (Str × Addr)) (A : Around) (outer : List Env) (s : Shared) (H : Hp) (E : XK) : Cx where
 prog := P
 w := w
 K := K
 mg := mg
 base := base
 A := A.deeper (envX qual scope s.heap.objs.size f cd cl)
 N := N
 s₀ := s
 H₀ := H
 env := envX qual scope s.heap.objs.size f cd cl
 outer := outer
 stack := envX qual scope s.heap.objs.size f cd cl :: outer
 ex := []
 calm := true
 fn := fun _ => false
 pn := []
 xe := fun e s' => wpAny (model P w) (A.deeper (envX qual scope s.heap.objs.size f cd cl)) (leaving (envX qual scope s.heap.objs.size f cd cl) e) (fun _ s'' => CXD P w outer H s E e s'') (fun e' s'' => CXD P w outer H s E e' s'') s'
section
variable {P : Program} {w : World} {K : PySem.W.Frag} {mg : Str → Option Value} {base : Heap} {N : List Str} {qual : Str} {scope : Scope} {f c' : Addr} {cl : List (Str × Addr)} {A : Around} {outer : List Env} {s : Shared} {H : Hp} {E : XK} {Q : VK} {params : Arguments} {body : Expr} {pm ctv : Value}
theorem passLD {cd : Value} : Passes (CXD P w) (cxLamD P w K mg base N qual scope f cd cl A outer s H E) E := by
 intro pins σ H1 s1 e s2 I h
 obtain ⟨a, cls, d, H', rfl, F, hd, q⟩ := h
 exact pass_outD (X := cxLamD P w K mg base N qual scope f cd cl A outer s H E) I rfl rfl rfl F hd fun h' F' hd' => ⟨a, cls, d, H', rfl, F', hd', q⟩
theorem lam_runD {k : Nat} {σ : St} (hr : Room (k + 1) A) (e0 : Env0 P w K mg base A outer s H) (L : LamAt s.heap H f qual params body scope cl pm ctv c')
  (hbind : bindArgs (kla_fn "<lambda>" qual params body scope cl pm (.ref c') ctv) ⟨[], []⟩ = pure []) (hco : scope.isCoroutine = false) (hgen : scope.isGenerator = false) (hk : scope.kind = .function) (hcell : ∀ x ∈ scope.names, x.2 ≠ .cell)
  (hhas : ∀ x, scope.names.lookup x = some .free → ∃ c, cl.lookup x = some c) (hinj : ∀ x y c, cl.lookup x = some c → cl.lookup y = some c → x = y)
  (hσ : ∀ (i : Nat) (x : Str) (v : V), N[i]? = some x → σ[i]? = some (some v) → ∃ c u, scope.names.lookup x = some .free ∧ cl.lookup x = some c ∧ s.heap.IsCell c (some u) ∧ RelV v u) (hlen : σ.length = N.length)
  (hbody : ∃ t, PE (cxLamD P w K mg base N qual scope f (.ref c') cl A outer s H E) body t ∧ t σ H Q) :
  codeAny (model P w) A (.call (.ref f) ⟨[], []⟩) (CR (CXD P w) outer P w H s Q E) s := by
 have lim : s.heap.NoLimit := e0.mod.nolimit.keeps fun b o e => (e0.bs b o e).1
 obtain ⟨t, ht, hq⟩ := hbody
 refine kla_callFunE hr.depth L.fn rfl hco hgen rfl L.code ?_
 rw [hbind]
 refine wpAny_pure (wpAny_newFunctionEnv hcell (by intro y hy; simp at hy) (fun h₁ hns hsb => ⟨lim.fresh _ hsb, ?_⟩) hk)
 show codeAny _ _ (.expr body (envX qual scope s.heap.objs.size f (.ref c') cl)) _ _
 have keep : ∀ b o, s.heap.get? b = some o → h₁.get? b = some o := fun b o e => hsb.extBut b o (Nat.ne_of_lt (Heap.lt_size e)) (Heap.get?_push_of_some _ e)
 have noA : ∀ b : Addr, b ∉ (cxLamD P w K mg base N qual scope f (.ref c') cl A outer s H E).ex := fun b z => absurd (show b ∈ ([] : List Addr) from z) (by simp)
 have I : Inv (cxLamD P w K mg base N qual scope f (.ref c') cl A outer s H E) [] σ H { s with heap := h₁, toks := s.toks + ([] : List (Str × Value)).length } := by
  refine ⟨⟨e0.mod, hk, rfl, rfl, Nat.le_refl _, fun x y c h1 h2 => hinj x y c h1 h2, fun x hx => ?_, fun x c z => (Bool.false_ne_true z).elim, fun _ => hr.hd, Around.frames_deeper e0.frames, .inr ⟨rfl, rfl⟩, fun b z => absurd z (noA b), e0.bs, e0.bsz, fun b _ _ => noA b, fun b z => absurd z (noA b), e0.funs, e0.frf⟩,
   rfl, e0.bare, Un.kept keep, ⟨_, hns, fun i x v h1 h2 h3 => ?_⟩, fun x c e => ?_, e0.hok.fresh (Nat.le_refl _), fun x c e => (L.cells x c e).2, fun p hp => absurd (show p ∈ ([] : List (Addr × Obj)) from hp) (by simp), e0.hok.kept keep, hlen⟩
  ·have hx : scope.names.lookup x = some .cell ∨ scope.names.lookup x = some .free := hx
   rcases hx with hx | hx
   ·exact absurd rfl (hcell _ (PySem.mem_of_lookup hx))
   ·exact hhas x hx
  ·obtain ⟨c, u, e1, e2, ⟨o, ho, hd⟩, r⟩ := hσ i x v h1 h2
   exact ⟨u, r, .inr ⟨.inr e1, c, e2, o, keep _ _ ho, hd⟩⟩
  ·obtain ⟨⟨v, o, ho, hd⟩, _⟩ := L.cells x c e
   exact ⟨v, o, keep _ _ ho, hd⟩
 refine kla_codeExpr (wpAny_mono (ht [] _ σ H Q I hq) (fun u s' hs => ?_) fun e s' hs => hs)
 obtain ⟨v, H', J, rv, q⟩ := hs
 exact ⟨v, H', J.os, J.bare, J.base, J.hok, rv, q⟩
end
section
variable {P : Program} {w : World} {K : PySem.W.Frag} {mg : Str → Option Value} {base : Heap}
theorem Fun.okTryDS {x qual : Str} {st : Stmt} {f : Addr} {fd : FuncData} {N ps : List Str} {k : Nat} {sp : List Env → List V → Hp → Heap → VK → Prop} {body : List Stmt} {y n : Str} {i : Nat} {Cy : Addr} {b₀ : Stmt} {suite : List Stmt} {np hp pos : Pos} (F : Fun K x qual st f fd) (S : FnScope N ps (defScope st)) (len : ∀ o vs H h Q, sp o vs H h Q → vs.length = ps.length)
  (hst : defBody st = [.Try body [.ExceptHandler (some (.Name y np)) (some n) (b₀ :: suite) hp] [] [] pos]) (hy : (defScope st).names.lookup y = some .globalImplicit) (hm : mg y = some (.ref Cy)) (hi : N[i]? = some n) (hn : (defScope st).names.lookup n = some .local) (hdb : (y == ("__debug__" : Str)) = false)
  (hbody : ∀ (cdv : Value) (A : Around) (outer : List Env) (s : Shared) (H : Hp) (vs : List V) (Q : VK) (E : XK), Room k (A.deeper (envOfC qual (defScope st) s.heap.objs.size f cdv)) → sp outer vs H s.heap Q →
   ∃ (EX : XK) (t : TS) (tS : Addr → Obj → TS), PSs ((cxOf CX0 P w K mg base N qual (defScope st) f cdv A outer s H E).nox.wish (LandsD (cxOf CX0 P w K mg base N qual (defScope st) f cdv A outer s H E).nox EX)) body t ∧
    (∀ e oe, PSs ((cxOf CX0 P w K mg base N qual (defScope st) f cdv A outer s H E).nox.within e oe) (b₀ :: suite) (tS e oe)) ∧ t { nx := fun _ H' => Q .non H', rt := Q } (start N vs) H ∧
    (∀ cls d H', EX cls d H' → PySem.W.exmOne K cls (.ref Cy) = some true) ∧ ∀ e oe cls d H', oe.cls = cls → oe.dict = d → PySem.W.notCls oe = true → EX cls d H' → tS e oe { nx := fun _ _ => False, rt := Q } ((List.replicate N.length none).set i (some (.ref e))) H') : FnOkS P w K mg base (k + 1) f fd ps sp := by
 refine ⟨len, fun A outer s H args us vs Q E hr e0 hb r hsp => ?_⟩
 have key : FnOk P w K mg base CX0 (k + 1) f fd ps (fun vs' H' Q' _ => vs' = vs ∧ False) := ⟨fun _ _ _ _ h => h.2.elim, fun _ _ _ _ _ _ _ _ _ _ _ _ _ h => h.2.elim⟩
 obtain ⟨oc, od, kV, doc, pm, an, cdv, ct, osl, rfl, lk, hcd⟩ := F.ex
 obtain ⟨EX, t, tS, h1, h2, h3, h4, h5⟩ := hbody cdv A outer s H vs Q E (hr.deeper _) hsp
 have key : ∀ (s1 : Shared), Inv (cxOf CX0 P w K mg base N qual (defScope st) f cdv A outer s H E).nox [] (start N vs) H s1 →
   wpAny (model P w) (A.deeper (envOfC qual (defScope st) s.heap.objs.size f cdv)) (execs (defBody st) (envOfC qual (defScope st) s.heap.objs.size f cdv)) (SP (cxOf CX0 P w K mg base N qual (defScope st) f cdv A outer s H E).nox [] { nx := fun _ H' => Q .non H', rt := Q }) (fun _ _ => False) s1 := fun s1 I => by
  rw [hst]
  refine wpAny_execs_cons (thn (Q := SP (cxOf CX0 P w K mg base N qual (defScope st) f cdv A outer s H E).nox [] { nx := fun _ H' => Q .non H', rt := Q }) (wpAny_Try_except (wpAny_mono (h1 [] s1 (start N vs) H { nx := fun _ H' => Q .non H', rt := Q } (I.wish _) h3) (fun fl s2 q2 => ?_) fun v s2 q2 => ?_)) fun fl s2 q2 => ?_)
  ·have q3 := SP.unwish q2
   cases fl with
   | next => exact wpAny_execs_nil q3
   | ret u => exact q3
   | brk => exact q3
   | cont => exact q3
  ·exact catch_asD (X := (cxOf CX0 P w K mg base N qual (defScope st) f cdv A outer s H E).nox) (R := Q) rfl rfl rfl rfl hy hm S.nd hi hn h4 h2 h5 hdb rfl q2
  ·cases fl with
   | next => exact wpAny_execs_nil q2
   | ret u => exact q2
   | brk => exact q2
   | cont => exact q2
 have hl := len _ _ _ _ _ hsp
 have KX : K.In s.heap := e0.mod.kin.keeps fun b o e => (e0.bs b o e).1
 have lim : s.heap.NoLimit := e0.mod.nolimit.keeps fun b o e => (e0.bs b o e).1
 have hkind : ∀ z ∈ ps.zip us, (defScope st).names.lookup z.1 = some .local ∨ ((defScope st).names.lookup z.1 = some .cell ∧ ((cellsFrom (s.heap.objs.size + 1) (defScope st).names []).lookup z.1).isSome = true) := fun ⟨n, v⟩ hy => by
  rcases S.par n (List.of_mem_zip hy).1 with q | q
  ·exact .inl q
  ·exact .inr ⟨q, PySem.W.cellsFrom_some _ _ _ (.inl q)⟩
 refine codeAny_call_function hr.depth (KX _ _ lk) rfl S.co S.gen rfl (PySem.W.codeRec_of KX hcd) (hb _ _ _ _ ?_)
 refine wpAny_newFunctionEnv_cells S.kind hkind fun env he s1 x => ?_
 subst he
 refine ⟨lim.keeps x.toInCall.keep, codeAny_func ?_⟩
 have I : Inv (cxOf CX0 P w K mg base N qual (defScope st) f cdv A outer s H E) [] (start N vs) H s1 := inv_start S hr.hd e0 hl r x
 refine wpAny_mono (key s1 (I.wish _)) (fun fl s' hs => ?_) fun e s' hs => hs.elim
 have fin : ∀ {σ' : St} {H' : Hp} {v : V} {u : Value}, Inv (cxOf CX0 P w K mg base N qual (defScope st) f cdv A outer s H E).nox [] σ' H' s' → RelV v u → Q v H' → CE outer P w H s Q u s' :=
  fun {σ' H' v u} J rv q => ⟨v, H', J.os, J.bare, J.base, J.hok, rv, q⟩
 cases fl with
 | ret u =>
  obtain ⟨v, σ', H', J, rv, q⟩ := hs
  exact fin J rv q
 | next =>
  obtain ⟨σ', H', J, q⟩ := hs
  exact fin (v := V.non) (u := Value.none) J rfl q
 | brk =>
  obtain ⟨_, _, _, q⟩ := hs
  exact False.elim q
 | cont =>
  obtain ⟨_, _, _, q⟩ := hs
  exact False.elim q
end
section
variable {X : Cx} {pins : List (Addr × Obj)} {σ : St} {H : Hp} {s : Shared} {P c : Addr} {ps : Array Value} {qual : Str} {poss : List Pos} {params : Arguments} {body : Expr} {scope : Scope} {pos : Pos} {Q : Value → Shared → Prop}
noncomputable def LamRunsD (X : Cx) (qual : Str) (params : Arguments) (body : Expr) (scope : Scope) (ys : List Str) (f : Addr) (H1 : Hp) (h : Heap) (vs : List V) : Prop :=
 FnAt f h ∧ H1 f = none ∧ f ∉ frs X.stack ∧ ∃ c' cl, ∀ (A : Around) (outer : List Env) (s' : Shared) (Q : VK) (E : XK) (kk : Nat), Room (kk + 1) A → Env0 X.prog X.w X.K X.mg X.base A outer s' H1 →
  (∀ b o, h.get? b = some o → H1 b = none → b ∉ frs X.stack → s'.heap.get? b = some o) → (∃ t, PE (cxLamD X.prog X.w X.K X.mg X.base ys qual scope f (.ref c') cl A outer s' H1 E) body t ∧ t (vs.map some) H1 Q) →
  codeAny (model X.prog X.w) A (.call (.ref f) ⟨[], []⟩) (CR (CXD X.prog X.w) outer X.prog X.w H1 s' Q E) s'
theorem lam_makeD {ys : List Str} {vs : List V} (I : Inv X pins σ H s) (hs : X.stack = X.env :: X.outer) (hf : X.env.frame = some X.env.locals) (hfn : X.fn = fun _ => true) (hcode : X.env.code = .ref c) (C : CodeHd X.base c P) (bm : BMain X.mg X.base) (T : TabI H P ps qual poss) (hpos : pos ∈ poss) (hap : ∀ q ∈ poss, q ≠ pos → ((((pos.line : Nat) : Int) == ((q.line : Nat) : Int) && ((pos.col : Nat) : Int) == ((q.col : Nat) : Int)) : Bool) = false) (hq : X.env.qual ++ "<lambda>" = qual)
  (hdef : defaultsOf params X.env = ([], [])) (hbind : ∀ cl pm c' ctv, bindArgs (kla_fn "<lambda>" qual params body scope cl pm (.ref c') ctv) ⟨[], []⟩ = pure []) (hco : scope.isCoroutine = false) (hgen : scope.isGenerator = false) (hk : scope.kind = .function) (hcell : ∀ x ∈ scope.names, x.2 ≠ .cell)
  (hfree : ∀ x ∈ scope.names, x.2 = .free → x.1 ∈ ys) (hys : ∀ y ∈ ys, scope.names.lookup y = some .free ∧ X.env.scope.names.lookup y = some .cell) (hlen : vs.length = ys.length) (hv : ∀ (j : Nat) (y : Str) (v : V), ys[j]? = some y → vs[j]? = some v → ∃ i : Nat, X.N[i]? = some y ∧ σ[i]? = some (some v))
  (k : ∀ f ps' H1 s1, Inv X pins σ H1 s1 → Grow P H H1 → TabI H1 P ps' qual poss → LamRunsD X qual params body scope ys f H1 s1.heap vs → Q (.ref f) s1) : wpAny (model X.prog X.w) X.A (eval (.Lambda params body scope pos) X.env) Q X.xe s := by
 obtain ⟨cl, hclos, hc1, hc2⟩ := clos_ok (env := X.env) (scope := scope) fun x hx hf => by
  exact I.ok.has _ (.inl (hys _ (hfree x hx hf)).2)
 have hP : s.heap.get? P = some (tabObj ps) := I.hok P _ T.at'
 have hg : s.heap.Ns mainGlobals X.mg := I.mod.glob.keeps I.bk
 have CS : CodeHd s.heap c P := C.keeps I.bk
 obtain ⟨b, ob, b1, b2, b3, b4, b5, b6⟩ := bm
 have hgP : mainGlobals ≠ P := fun z => by
  obtain ⟨o, es, ep, e, hd, _⟩ := hg
  rw [z, hP] at e; cases e; cases hd
 have hbP : b ≠ P := fun z => by
  have := I.bk _ _ b3
  rw [z, hP] at this; cases this; cases b4
 have hbG : b ≠ mainGlobals := fun z => by
  obtain ⟨o, es, ep, e, hd, _⟩ := hg
  have := I.bk _ _ b3
  rw [z, e] at this; cases this; rw [hd] at b6; cases b6
 have hb : s.heap.BuiltinsAt X.mg P := ⟨b, ob, b1, b2, hbG, hbP, I.bk _ _ b3, b4, b5, b6⟩
 -- the value that the name holds
 obtain ⟨m, hm, hl⟩ := I.loc
 have nm : ∀ (j : Nat) (y : Str) (v : V), ys[j]? = some y → vs[j]? = some v → ∃ cc u, X.env.cells.lookup y = some cc ∧ s.heap.IsCell cc (some u) ∧ RelV v u ∧ cl.lookup y = some cc := fun j y v e1 e2 => by
  obtain ⟨i, hN, hσ⟩ := hv j y v e1 e2
  obtain ⟨hy, hyX⟩ := hys y (List.mem_of_getElem? e1)
  obtain ⟨u, ru, lk⟩ := hl i y v hN hσ (.inr (.inl hyX))
  obtain ⟨cc, hcc, hcellv⟩ : ∃ cc, X.env.cells.lookup y = some cc ∧ s.heap.IsCell cc (some u) := by
   rcases lk with ⟨z, _⟩ | ⟨_, cc, e1, e2⟩
   ·have z' : X.env.scope.names.lookup y = some .local := z
    rw [hyX] at z'; cases z'
   ·exact ⟨cc, e1, e2⟩
  refine ⟨cc, u, hcc, hcellv, ru, ?_⟩
  obtain ⟨d, hd⟩ := hc2 y (PySem.mem_of_lookup hy)
  have := hc1 y d hd
  rw [hcc] at this; rw [hd, this]
 have cabove : ∀ x d, X.env.cells.lookup x = some d → d ∉ frs X.stack := fun x d e hb => by
  rcases List.mem_cons.mp (I.stkSub d hb) with z | z
  ·exact I.cne x d e z
  ·have := I.ok.cab x d (by rw [hfn]) e
   obtain ⟨_, o, ho, _⟩ := I.ok.funs.mem z
   exact absurd (Nat.lt_of_lt_of_le (Heap.lt_size ho) this) (Nat.lt_irrefl _)
 have fresh : ∀ d, s.heap.objs.size ≤ d → d ∉ frs X.stack := fun d hd hb => by
  obtain ⟨_, o, ho, _⟩ := I.stack.mem hb
  exact absurd (Nat.lt_of_lt_of_le (Heap.lt_size ho) hd) (Nat.lt_irrefl _)
 -- what is made runs
 have runs : ∀ (f c' : Addr) (ctv : Value) (H1 : Hp) (h1 : Heap), h1.get? f = some (kla_obj "<lambda>" qual params body scope cl ((X.mg "__name__").getD .none) c' ctv) → H1 f = none → s.heap.objs.size ≤ f → H1 c' = some (cdO c' qual) → (∀ x d, X.env.cells.lookup x = some d → (∃ w', h1.IsCell d w') ∧ H1 d = none) → (∀ x d u, X.env.cells.lookup x = some d → s.heap.IsCell d (some u) → h1.IsCell d (some u)) → LamRunsD X qual params body scope ys f H1 h1 vs := by
  intro f c' ctv H1 h1 e1 e2 e3 e4 e5 e6
  refine ⟨⟨_, _, _, _, e1⟩, e2, fresh f e3, c', cl, fun A outer s' Q' E kk hr e0 kept hbody => ?_⟩
  have hcd : s'.heap.CodeRec (.ref c') qual := by
   obtain ⟨⟨o, vs, t, x1, x2, x3⟩, _⟩ := e0.hok c' _ e4
   exact ⟨c', o, vs, t, rfl, x1, x2, x3⟩
  have kc : ∀ {d : Addr} {w' : Option Value}, H1 d = none → d ∉ frs X.stack → h1.IsCell d w' → s'.heap.IsCell d w' := fun h1' h2' ⟨o, ho, hd⟩ => ⟨o, kept _ _ ho h1' h2', hd⟩
  refine lam_runD hr e0 ⟨kept _ _ e1 e2 (fresh f e3), hcd, fun x d e => ?_⟩ (hbind _ _ _ _) hco hgen hk hcell (fun x hx => hc2 x (PySem.mem_of_lookup hx)) (fun x y' d z1 z2 => I.ok.inj x y' d (hc1 x d z1) (hc1 y' d z2)) (fun j x w' h1' h2' => ?_) (by rw [List.length_map]; exact hlen) hbody
  ·obtain ⟨⟨w', x1⟩, x2⟩ := e5 x d (hc1 x d e)
   exact ⟨⟨w', kc x2 (cabove x d (hc1 x d e)) x1⟩, x2⟩
  ·rw [List.getElem?_map] at h2'
   cases hvj : vs[j]? with
   | none => rw [hvj] at h2'; cases h2'
   | some v' =>
    rw [hvj] at h2'
    cases h2'
    obtain ⟨cc, u, hcc, hcv, ru, hclY⟩ := nm j x _ h1' hvj
    exact ⟨cc, u, (hys x (List.mem_of_getElem? h1')).1, hclY, kc (e5 x cc hcc).2 (cabove x cc hcc) (e6 x cc u hcc hcv), ru⟩
 refine kla_eval hdef ?_
 rw [hq]
 rcases T.cd pos hpos with hnf | ⟨c', hhit, hc'⟩
 ·refine kla_makeFunction (mg := X.mg) hclos I.ok.glob hg hcode CS hP T.tr hnf hgP hb fun c' ctv h' tk hx hge hlt hrec htb => ?_
  have hsz : s.heap.objs.size ≤ h'.objs.size := Nat.le_of_lt (Nat.lt_of_le_of_lt hge hlt)
  have hPlt : P < s.heap.objs.size := Heap.lt_size hP
  have hcP : c' ≠ P := fun z => by rw [z] at hge; exact absurd (Nat.lt_of_lt_of_le hPlt hge) (Nat.lt_irrefl _)
  have keep : ∀ b o, b ≠ P → s.heap.get? b = some o → (h'.push (kla_obj "<lambda>" qual params body scope cl ((X.mg "__name__").getD .none) c' ctv)).get? b = some o := fun b o hb e => Heap.get?_push_of_some _ (hx b o hb e)
  have nP : ∀ b, H b = none → b ≠ P := fun b n z => by rw [z, T.at'] at n; cases n
  have hcn : H c' = none := I.hok.fresh hge
  have hfn' : H h'.objs.size = none := I.hok.fresh hsz
  generalize hnew : ps ++ #[rawInt pos.line, rawInt pos.col, .ref c'] = ps' at htb
  generalize hH1 : upd (upd H P (.tbl ps')) c' (cdO c' qual) = H1
  have g1 : Grow P H H1 := fun b w' hb e => by
   rw [← hH1, upd_ne (ne_of_none e hcn), upd_ne hb]; exact e
  have gP : H1 P = some (.tbl ps') := by rw [← hH1, upd_ne hcP.symm, upd_same]
  have gc : H1 c' = some (cdO c' qual) := by rw [← hH1, upd_same]
  have gn : ∀ b, H b = none → b ≠ c' → H1 b = none := fun b n hb => by rw [← hH1, upd_ne hb, upd_ne (nP b n)]; exact n
  have gof : ∀ b w', H1 b = some w' → b ≠ P → b ≠ c' → H b = some w' := fun b w' e h1 h2 => by rw [← hH1, upd_ne h2, upd_ne h1] at e; exact e
  obtain ⟨c2, oc, vs, tt, e2, hoc, hdc, hvc⟩ := hrec
  cases e2
  have hokF : HOk X.prog X.w H1 (h'.push (kla_obj "<lambda>" qual params body scope cl ((X.mg "__name__").getD .none) c' ctv)) := fun b w' e => by
   by_cases hbP' : b = P
   ·rw [hbP', gP] at e; cases e
    rw [hbP']
    show (h'.push _).get? P = some _
    exact Heap.get?_push_of_some _ htb
   ·by_cases hbc : b = c'
    ·rw [hbc, gc] at e; cases e
     rw [hbc]
     refine ⟨⟨oc, vs, tt, Heap.get?_push_of_some _ hoc, hdc, hvc⟩, ⟨oc, Heap.get?_push_of_some _ hoc⟩, fun h1 h2 ⟨o, vs', t', x1, x2, x3⟩ kk => ⟨o, vs', t', kk o x1, x2, x3⟩⟩
    ·have e' := gof b w' e hbP' hbc
     refine (I.hok b w' e').stay (fun d w'' hd q => keep d w'' (fun z => ?_) q) (fun d q => ?_) fun d xs q => ?_
     ·rcases hd with z' | z'
      ·exact hbP' (z'.symm.trans z)
      ·rw [z, T.at'] at z'; cases z'
     ·refine g1 d _ (fun z => ?_) q
      rw [z, T.at'] at q; cases q
     ·refine g1 d _ (fun z => ?_) q
      rw [z, T.at'] at q; cases q
  have I1 : Inv X pins σ H1 { s with heap := h'.push (kla_obj "<lambda>" qual params body scope cl ((X.mg "__name__").getD .none) c' ctv), toks := tk } := by
   refine I.un (t' := tk) ⟨fun b o q n _ _ => keep b o (nP b n) q, fun b o q n _ _ => ⟨o.slots, keep b o (nP b n) q⟩, fun b o q n _ => gn b n (fun z => ?_), fun b o q _ => ?_, fun b xs q => g1 b _ (fun z => ?_) q, fun b o w' q => g1 b _ (fun z => ?_) q, fun b qs q => ?_⟩ hokF
   ·have := Heap.lt_size q
    rw [z] at this; exact absurd (Nat.lt_of_lt_of_le this hge) (Nat.lt_irrefl _)
   ·by_cases hbP' : b = P
    ·exact ⟨_, by rw [hbP']; exact Heap.get?_push_of_some _ htb⟩
    ·exact ⟨o, keep b o hbP' q⟩
   ·rw [z, T.at'] at q; cases q
   ·rw [z, T.at'] at q; cases q
   ·by_cases hbP' : b = P
    ·rw [hbP', T.at'] at q; cases q
     exact ⟨#[rawInt pos.line, rawInt pos.col, .ref c'], by rw [hbP', gP, hnew]⟩
    ·exact ⟨#[], by rw [g1 b _ hbP' q]; simp⟩
  refine k _ ps' H1 _ I1 g1 ⟨gP, ?_, fun q hq' => ?_⟩ (runs _ c' ctv H1 _ (Heap.get?_push_size _ rfl) (gn _ hfn' (Nat.ne_of_gt hlt)) hsz gc (fun x d e => ?_) fun x d u e hcv => ?_)
  ·rw [← hnew, Array.toList_append]
   exact triples_snoc T.tr
  ·rw [← hnew, Array.toList_append]
   have eqA : codeAmong q (ps.toList ++ #[rawInt pos.line, rawInt pos.col, Value.ref c'].toList) = _ := among_snoc (pos := q) (pos' := pos) (c := .ref c') T.tr
   rw [eqA]
   by_cases hqp : q = pos
   ·subst hqp
    rw [hnf]
    refine .inr ⟨c', ?_, gc⟩
    dsimp only
    rw [if_pos (by simp)]
   ·rcases T.cd q hq' with z | ⟨d, z1, z2⟩
    ·rw [z]
     refine .inl ?_
     dsimp only
     rw [if_neg (by rw [hap q hq' hqp]; decide)]
    ·rw [z1]
     refine .inr ⟨d, rfl, g1 d _ (fun z => ?_) z2⟩
     rw [z, T.at'] at z2; cases z2
  ·obtain ⟨w', o, ho, hd⟩ := I.cell x d e
   have hdn := I.freeC x d e
   refine ⟨⟨w', o, keep d o (nP d hdn) ho, hd⟩, gn d hdn fun z => ?_⟩
   have := Heap.lt_size ho
   rw [z] at this; exact absurd (Nat.lt_of_lt_of_le this hge) (Nat.lt_irrefl _)
  ·obtain ⟨o, ho, hd⟩ := hcv
   exact ⟨o, keep d o (nP d (I.freeC x d e)) ho, hd⟩
 ·refine kla_makeFunctionHit (mg := X.mg) hclos I.ok.glob hg hcode CS hP T.tr hhit hb fun ctv h' tk hkp hsz => ?_
  have hfn' : H h'.objs.size = none := I.hok.fresh hsz
  have I1 : Inv X pins σ H { s with heap := h'.push { cls := .type "function", data := .func (kla_fn "<lambda>" qual params body scope cl ((X.mg "__name__").getD .none) (.ref c') ctv) }, toks := tk } := I.kept (t' := tk) fun b o e => Heap.get?_push_of_some _ (hkp b o e)
  refine k _ ps H _ I1 (fun b w' _ e => e) T (runs _ c' ctv H _ (Heap.get?_push_size _ rfl) hfn' hsz hc' (fun x d e => ?_) fun x d u e hcv => ?_)
  ·obtain ⟨w', o, ho, hd⟩ := I.cell x d e
   exact ⟨⟨w', o, Heap.get?_push_of_some _ (hkp _ _ ho), hd⟩, I.freeC x d e⟩
  ·obtain ⟨o, ho, hd⟩ := hcv
   exact ⟨o, Heap.get?_push_of_some _ (hkp _ _ ho), hd⟩
end
section
variable {X : Cx} {g P c : Addr} {gd : FuncData} {k : Nat} {pn x : Str} {ys : List Str} {sp : List Env → List V → Hp → Heap → VK → Prop} {qual : Str} {poss : List Pos} {params : Arguments} {body : Expr} {scope : Scope} {pos p cpos : Pos}
theorem pe_tellD (F : FnOkS X.prog X.w X.K X.mg X.base k g gd [pn] sp) (hr : Room k X.A) (hg : Gl X x) (hm : X.mg x = some (.ref g)) (hkp : keepIn X.K (.ref g) = true) (hb : Binds X.K gd [pn] []) (L : LamTN X c P qual poss params body scope pos ys) (hdb : (x == ("__debug__" : Str)) = false := by decide)
  (he : starEach [.Lambda params body scope pos] X.env = [(false, eval (.Lambda params body scope pos) X.env)] := by rfl) :
  PE X (.Call (.Name x p) [.Lambda params body scope pos] [] cpos) (fun σ H Q => ∃ (ps : Array Value) (vs : List V), TabI H P ps qual poss ∧ vs.length = ys.length ∧ (∀ (j : Nat) (y : Str) (v : V), ys[j]? = some y → vs[j]? = some v → ∃ i : Nat, X.N[i]? = some y ∧ σ[i]? = some (some v)) ∧ ∀ f ps' H1 h, Grow P H H1 → TabI H1 P ps' qual poss → LamRunsD X qual params body scope ys f H1 h vs → sp X.stack [.ref f] H1 h Q) := by
 intro pins s σ H Q I h
 obtain ⟨ps, vs, T, hlen, hv, h⟩ := h
 refine wpAny_Call_Name_kw (ld_glob I hg hm ?_ hdb)
 refine PySem.W.callWith_K (h₀ := X.base) I.ok.mod.kin hkp ?_ (by rw [he]; rfl) rfl
 rw [he]
 show wpAny _ _ (spliced ((false, eval (.Lambda params body scope pos) X.env) :: backTo cpos (starEach [] X.env))) _ _ s
 refine Calls.spliced_cons (lam_makeD I L.hs L.hf L.hfn L.hcode L.C L.bm T L.hpos L.hap L.hq L.hdef L.hbind L.hco L.hgen L.hk L.hcell L.hfree L.hys hlen hv fun f ps' H1 s1 I1 g1 T1 R => ?_)
 refine Calls.spliced_nil ⟨I1.kIn, ?_⟩
 have q := h f ps' H1 s1.heap g1 T1 R
 refine wpAny_call (codeAny_mono (F.run X.A X.stack s1 H1 ⟨[.ref f], []⟩ [.ref f] [.ref f] Q E0 hr I1.env0 (by have := hb s1 [.ref f] I1.kIn rfl; exact this) (.cons rfl .nil) q) fun r s' hq => ?_)
 cases r with
 | error e => exact False.elim hq
 | ok fl =>
  cases fl with
  | ret u => exact I1.after hq
  | next => exact False.elim hq
  | brk => exact False.elim hq
  | cont => exact False.elim hq
end
end L2
namespace M03
open PySem L2 PyProof.Rows
noncomputable abbrev sCame : Stmt := top 47
noncomputable def Tells (P : Program) (w : World) (K : PySem.W.Frag) (mg : Str → Option Value) (base : Heap) (o : List Env) (f : Addr) (H : Hp) (h : Heap) (R : VK) (X : XK) : Prop :=
 ∀ (A : Around) (outer : List Env) (s' : Shared) (Q : VK) (E : XK), Room 7 A → Env0 P w K mg base A outer s' H → (∀ b o', h.get? b = some o' → H b = none → b ∉ frs o → s'.heap.get? b = some o') → (∀ v H', R v H' → Q v H') → (∀ cls d H', X cls d H' → E cls d H') →
  codeAny (model P w) A (.call (.ref f) ⟨[], []⟩) (CR (CXD P w) outer P w H s' Q E) s'
structure TM (K : PySem.W.Frag) (D : Addr) : Prop where
 a : ExcA K D
 n1 : NoAttr K D "many"
 n2 : NoAttr K D "most"
noncomputable def Refd (K : PySem.W.Frag) (c : Nat → Addr) (cE : Addr) (Q : VK) : XK := fun cls d H' => ∃ D j, cls = .ref D ∧ ClsW K c cE D j ∧
  ((j = 15 ∧ TM K D ∧ ∃ dd m n, d = some dd ∧ H' dd = some (xdO dd (xF m n)) ∧ ∀ t H2, Same H' H2 → H2 t = some (.tup [.str "no", .str "many", .int m, .int n]) → Q (.ref t) H2) ∨
   (j ≠ 15 ∧ ∀ t H2, Same H' H2 → H2 t = some (.tup [.str "no", .str (wd j)]) → Q (.ref t) H2))
noncomputable def spCame (P : Program) (w : World) (K : PySem.W.Frag) (mg : Str → Option Value) (base : Heap) (c : Nat → Addr) (cE : Addr) : List Env → List V → Hp → Heap → VK → Prop := fun o vs H h Q => ∃ f R, vs = [.ref f] ∧ PySem.W.FnAt f h ∧ H f = none ∧ f ∉ frs o ∧ Tells P w K mg base o f H h R (Refd K c cE Q) ∧
 ∀ v H', R v H' → ∀ t, H' t = none → Q (.ref t) (upd H' t (.tup [.str "told", v]))
section
variable {P : Program} {w : World} {K : PySem.W.Frag} {mg : Str → Option Value} {base : Heap}
noncomputable abbrev nCame : List Str := ["_law_call", "_law_e"]
theorem scCame : FnScope nCame ["_law_call"] (defScope sCame) := ⟨rfl, rfl, rfl, by decide +kernel, rfl, by decide +kernel, by decide +kernel⟩
noncomputable def hSuite (s : Stmt) : List Stmt := match defBody s with | [.Try _ [.ExceptHandler _ _ b _] _ _ _] => b | _ => []
theorem ok_came {f gW cE : Addr} {c : Nat → Addr} {fd dW : FuncData} (F : Fun K "_law_came" "_law_came" sCame f fd) (T : Txt mg) (mE : mg "MeadError" = some (.ref cE)) (N : Names mg c)
    (nW : mg "_law_word" = some (.ref gW)) (kW : PySem.W.keepIn K (.ref gW) = true) (bW : L2.Binds K dW ["_law_e"] []) (oW : FnOkP P w K mg base 2 gW dW ["_law_e"] (spWord K c cE)) : FnOkS P w K mg base 8 f fd ["_law_call"] (spCame P w K mg base c cE) := by
  have nd := scCame.nd
  refine F.okTryDS (i := 1) (Cy := cE) scCame (fun o vs H h Q z => ?_) rfl rfl mE rfl rfl (by decide) (fun cdv A outer s H vs Q E hr h => ?_)
  · obtain ⟨g, R, rfl, _⟩ := z; rfl
  · obtain ⟨g, R, rfl, hF, hH, hfr, hR, q⟩ := h
    have hS : ∀ (e : Addr) (oe : Obj) (D : Addr) (cD : ExcD K D), ∃ tt, PSs ((cxOf CX0 P w K mg base nCame "_law_came" (defScope sCame) f cdv A outer s H E).nox.within e oe) (hSuite sCame) tt ∧
        ∀ j d H', oe.cls = .ref D → oe.dict = d → PySem.W.notCls oe = true → ClsW K c cE D j → ((j = 15 ∧ TM K D ∧ ∃ dd m n, d = some dd ∧ H' dd = some (xdO dd (xF m n)) ∧ ∀ t H2, Same H' H2 → H2 t = some (.tup [.str "no", .str "many", .int m, .int n]) → Q (.ref t) H2) ∨
   (j ≠ 15 ∧ ∀ t H2, Same H' H2 → H2 t = some (.tup [.str "no", .str (wd j)]) → Q (.ref t) H2)) → tt { nx := fun _ _ => False, rt := Q } [none, some (.ref e)] H' := fun e oe D cD => by
      refine ⟨_, pss_cons (ps_if (pt_val (pe_callB (call_isinstX cD) rfl T.isinstance boot_isinstance (pa_v (pv 1) (pa_v (pe_glob (v := .ref (c 15)) rfl N.m15 rfl) pa_nil))))
        (pss_one (ps_ret (pe_tup (pa_c pe_str (pa_k (pe_callP oW (hr.mono (by decide)) rfl nW kW bW (pa_v (pv 1) pa_nil)) (pa_cons (pe_fldE (pv 1) rfl) (pa_cons (pe_fldE (pv 1) rfl) pa_nil))))))) pss_nil) <|
        pss_one (ps_ret (pe_tup (pa_c pe_str (pa_k (pe_callP oW (hr.mono (by decide)) rfl nW kW bW (pa_v (pv 1) pa_nil)) pa_nil)))), fun j d H' hc hdd hnc cl hq => ?_⟩
      refine ⟨_, rfl, hc, .inl ⟨c 15, _, rfl, cl.k 15 (by decide), _, rfl, iteB (fun z => ?_) fun z => ?_⟩⟩
      · have hj : j = 15 := by have := of_decide_eq_true z; omega
        rcases hq with ⟨_, tm, dd, m, n, rfl, hd, hq⟩ | ⟨hne, _⟩
        · refine ⟨_, rfl, D, j, rfl, hc, cl, fun H2 s2 => ?_⟩
          have hd2 := s2 _ _ hd
          refine ⟨_, rfl, D, dd, _, .int m, rfl, hc, hdd, hnc, tm.a, tm.n1, hd2, rfl, ?_⟩
          refine ⟨_, rfl, D, dd, _, .int n, rfl, hc, hdd, hnc, tm.a, tm.n2, hd2, rfl, ?_⟩
          refine ⟨by show 4 ≤ sizeLine; decide, fun t ht => ?_⟩
          subst hj
          exact hq t _ (s2.trans (same_upd ht)) upd_same
        · exact absurd hj hne
      · have hj : j ≠ 15 := by have := of_decide_eq_false z; omega
        rcases hq with ⟨h15, _⟩ | ⟨_, hq⟩
        · exact absurd h15 hj
        · refine ⟨_, rfl, D, j, rfl, hc, cl, fun H2 s2 => ?_⟩
          refine ⟨by show 2 ≤ sizeLine; decide, fun t ht => ?_⟩
          exact hq t _ (s2.trans (same_upd ht)) upd_same
    refine ⟨Refd K c cE Q, _, fun e oe => fun DD σ H' => ∃ (D : Addr) (cD : ExcD K D), (hS e oe D cD).choose DD σ H', pss_one (ps_ret (pe_tup (pa_c pe_str (pa_k (pe_callL (i := 0) rfl (Or.inl rfl) pass_landsD) pa_nil)))), fun e oe => fun pins s' σ H' DD I ⟨D, cD, h⟩ => (hS e oe D cD).choose_spec.1 pins s' σ H' DD I h, ?_, ?_, ?_⟩
    · refine ⟨g, rfl, fun pins s' I => ?_⟩
      have keep : ∀ b o', s.heap.get? b = some o' → H b = none → b ∉ frs outer → s'.heap.get? b = some o' := fun b o' e1 e2 e3 => I.base.keep b o' e1 e2 e3 (fun z => by cases z)
      refine ⟨?_, hR _ _ s' _ _ hr I.env0 keep (fun v H' h => ⟨by show 2 ≤ sizeLine; decide, fun t ht => q v H' h t ht⟩) fun _ _ _ h => h⟩
      obtain ⟨oc, od, fd', sl, e1⟩ := hF
      exact ⟨oc, od, fd', sl, keep _ _ e1 hH hfr⟩
    · rintro cls d H' ⟨D, j, rfl, cl, _⟩
      exact cl.x
    · rintro e oe cls d H' hc hd hnc ⟨D, j, rfl, cl, hq⟩
      exact ⟨D, cl.d, (hS e oe D cl.d).choose_spec.2 j d H' hc hd hnc cl hq⟩
end
end M03
namespace M03
open PySem L2 PyProof.Rows
noncomputable def flatEq (a b : V) : Prop := a = b ∧ ((∃ i, a = .int i) ∨ ∃ x, a = .str x)
noncomputable def SameV (H : Hp) : Nat → V → V → Prop
 | 0, a, b => flatEq a b
 | n + 1, a, b => flatEq a b ∨ ∃ p q xs ys, a = .ref p ∧ b = .ref q ∧ ((H p = some (.lst xs) ∧ H q = some (.lst ys)) ∨ (H p = some (.tup xs) ∧ H q = some (.tup ys))) ∧ xs.length ≤ 1000 ∧ Paired (SameV H n) xs ys
theorem SameV.same {H H' : Hp} (s : Same H H') : ∀ {n : Nat} {a b : V}, SameV H n a b → SameV H' n a b
 | 0, _, _, h => h
 | n + 1, a, b, h => by
  rcases h with h | ⟨p, q, xs, ys, h1, h2, h3, h4, h5⟩
  ·exact .inl h
  ·refine .inr ⟨p, q, xs, ys, h1, h2, ?_, h4, Paired.mapP h5 fun _ _ z => SameV.same s z⟩
   rcases h3 with ⟨u, v⟩ | ⟨u, v⟩
   ·exact .inl ⟨s _ _ u, s _ _ v⟩
   ·exact .inr ⟨s _ _ u, s _ _ v⟩
theorem SameV.int {H : Hp} (n : Nat) (i : Int) : SameV H n (.int i) (.int i) := by cases n with | zero => exact ⟨rfl, .inl ⟨i, rfl⟩⟩ | succ n => exact .inl ⟨rfl, .inl ⟨i, rfl⟩⟩
theorem SameV.str {H : Hp} (n : Nat) (x : Str) : SameV H n (.str x) (.str x) := by cases n with | zero => exact ⟨rfl, .inr ⟨x, rfl⟩⟩ | succ n => exact .inl ⟨rfl, .inr ⟨x, rfl⟩⟩
noncomputable def spSame (n : Nat) : Sp := fun vs H Q _ => ∃ a b, vs = [a, b] ∧ SameV H n a b ∧ ∀ H', Same H H' → Q (.bl true) H'
theorem pairedGet {α β : Type} {F : α → β → Prop} : ∀ {l₁ : List α} {l₂ : List β} {i : Nat} {a : α} {b : β}, Paired F l₁ l₂ → l₁[i]? = some a → l₂[i]? = some b → F a b
 | _, _, 0, _, _, .cons r _, h1, h2 => by cases h1; cases h2; exact r
 | _, _, i + 1, _, _, .cons _ t, h1, h2 => pairedGet (i := i) t (by simpa using h1) (by simpa using h2)
noncomputable abbrev sSame : Stmt := top 45
section
variable {P : Program} {w : World} {K : PySem.W.Frag} {mg : Str → Option Value} {base : Heap}
theorem scSame : FnScope ["_law_told", "_law_due"] ["_law_told", "_law_due"] (defScope sSame) := ⟨rfl, rfl, rfl, by decide +kernel, rfl, by decide +kernel, by decide +kernel⟩
theorem ndOO : (["_law_one", "_law_other"] : List Str).Nodup := by decide +kernel
theorem same_step {f : Addr} {fd : FuncData} {k : Nat} {spR : Sp} (F : Fun K "_law_same" "_law_same" sSame f fd) (T : Txt mg) (mS : mg "_law_same" = some (.ref f)) (bS : L2.Binds K fd ["_law_told", "_law_due"] [])
    (G : FnOk P w K mg base CX0 k f fd ["_law_told", "_law_due"] spR) (SR : Hp → V → V → Prop) (hSR : ∀ H H', Same H H' → ∀ a b, SR H a b → SR H' a b) (hR : ∀ a b H Q E, SR H a b → (∀ H', Same H H' → Q (.bl true) H') → spR [a, b] H Q E) :
    FnOk P w K mg base CX0 (k + 1) f fd ["_law_told", "_law_due"] (fun vs H Q _ => ∃ a b, vs = [a, b] ∧ (flatEq a b ∨ ∃ p q xs ys, a = .ref p ∧ b = .ref q ∧ ((H p = some (.lst xs) ∧ H q = some (.lst ys)) ∨ (H p = some (.tup xs) ∧ H q = some (.tup ys))) ∧ xs.length ≤ 1000 ∧ Paired (SR H) xs ys) ∧ ∀ H', Same H H' → Q (.bl true) H') := by
  refine F.ok scSame (fun vs H Q E h => ?_) (fun cdv A outer s H vs Q E hr h => ?_)
  · obtain ⟨a, b, rfl, _⟩ := h; rfl
  · obtain ⟨a, b, rfl, hS, q⟩ := h
    refine ⟨_, pss_cons (ps_if (pt_val (pe_callB call_isinstTs rfl T.isinstance boot_isinstance (pa_v (pv 1) (pa_t (pe_tup (pa_v (pe_bltn (v := .ty "list") rfl T.list boot_list rfl) (pa_v (pe_bltn (v := .ty "tuple") rfl T.tuple boot_tuple rfl) pa_nil))) pa_nil))))
        (pss_cons (ps_if (PW.pt (pw_or (pt_not (pt_val (pe_callB call_isinstTs rfl T.isinstance boot_isinstance (pa_v (pv 0) (pa_t (pe_tup (pa_v (pe_bltn (v := .ty "list") rfl T.list boot_list rfl) (pa_v (pe_bltn (v := .ty "tuple") rfl T.tuple boot_tuple rfl) pa_nil))) pa_nil)))))
            (pw_or1 (pt_cmpR op_ne (pe_callB call_isinst rfl T.isinstance boot_isinstance (pa_v (pv 0) (pa_v (pe_bltn (v := .ty "list") rfl T.list boot_list rfl) pa_nil))) (pe_callB call_isinst rfl T.isinstance boot_isinstance (pa_v (pv 1) (pa_v (pe_bltn (v := .ty "list") rfl T.list boot_list rfl) pa_nil))) (nomark _))))) (pss_one (ps_ret pe_bl)) pss_nil) <|
         pss_cons (ps_if (pt_cmpR op_ne (pe_callB call_len_seq rfl T.len PySem.boot_len (pa_v (pv 0) pa_nil)) (pe_callB call_len_seq rfl T.len PySem.boot_len (pa_v (pv 1) pa_nil)) (nomark _)) (pss_one (ps_ret pe_bl)) pss_nil) <|
         pss_one (ps_ret (pe_callB (call_all rfl) rfl T.all boot_all (pa_lc (pe_comp1 (defScope sSame).names ["_law_told", "_law_due"] ["_law_one", "_law_other"] [] rfl (PI.or (pi_zip kL_ok rfl T.zip (pa_v (pv 0) (pa_v (pv 1) pa_nil))) (pi_zip kT_ok rfl T.zip (pa_v (pv 0) (pa_v (pv 1) pa_nil)))) rfl rfl rfl (by decide +kernel)
            (fun Z => pg_tup rfl (pgs_cons (pg_name (i := 0) ndOO rfl (Or.inl rfl)) (pgs_cons (pg_name (i := 1) ndOO rfl (Or.inl rfl)) pgs_nil))) (fun Z => pts_nil) (fun Z => pe_call G hr rfl mS F.kp bS .nil pass0 (pa_v (pv 0) (pa_v (pv 1) pa_nil)))) pa_nil)))) pss_nil) <|
      pss_one (ps_ret (pe_and (pe_cmpR op_eq (pe_callB call_isinst rfl T.isinstance boot_isinstance (pa_v (pv 0) (pa_v (pe_bltn (v := .ty "bool") rfl T.bool boot_bool rfl) pa_nil))) (pe_callB call_isinst rfl T.isinstance boot_isinstance (pa_v (pv 1) (pa_v (pe_bltn (v := .ty "bool") rfl T.bool boot_bool rfl) pa_nil))) (nomark _)) (pe_one (pe_cmpR op_eq (pv 0) (pv 1) (nomark _))))), ?_⟩
    rcases hS with ⟨rfl, hf⟩ | ⟨p, qq, xs, ys, rfl, rfl, hpq, hz, hP⟩
    · -- a number or a text
      obtain ⟨ty, hty, hT, hk, hb, hnn, hsc⟩ : ∃ ty, TyOf K H a ty ∧ (∃ T, ty = .type T) ∧ PySem.W.kitAny K ty (["list", "tuple"].map Value.type) = some false ∧ PySem.W.kitOne K ty (.type "bool") = some false ∧ a ≠ .non ∧ scal a a = true := by
        rcases hf with ⟨i, rfl⟩ | ⟨x, rfl⟩
        · exact ⟨_, .int i, ⟨_, rfl⟩, by kernel_rfl, by kernel_rfl, (fun z => by cases z), rfl⟩
        · exact ⟨_, .str x, ⟨_, rfl⟩, by kernel_rfl, by kernel_rfl, (fun z => by cases z), rfl⟩
      refine ⟨_, rfl, by show 2 ≤ sizeLine; decide, fun t ht => ?_⟩
      have s1 := same_upd (o := .tup [.ty "list", .ty "tuple"]) ht
      have hty1 : ∃ ty, TyOf K (upd H t (.tup [.ty "list", .ty "tuple"])) a ty ∧ (∃ T, ty = .type T) ∧ PySem.W.kitAny K ty (["list", "tuple"].map Value.type) = some false ∧ PySem.W.kitOne K ty (.type "bool") = some false := by
        rcases hf with ⟨i, rfl⟩ | ⟨x, rfl⟩
        · exact ⟨_, .int i, ⟨_, rfl⟩, by kernel_rfl, by kernel_rfl⟩
        · exact ⟨_, .str x, ⟨_, rfl⟩, by kernel_rfl, by kernel_rfl⟩
      obtain ⟨ty1, a1, a2, a3, a4⟩ := hty1
      refine ⟨_, t, ty1, false, ["list", "tuple"], rfl, upd_same, a1, a2, a3, _, rfl, iteF ?_⟩
      refine ⟨_, rfl, _, "bool", ty1, false, rfl, a1, a4, _, rfl, _, "bool", ty1, false, rfl, a1, a4, rfl, _, rfl, ?_⟩
      rw [decide_eq_true rfl]
      refine iteT ⟨_, rfl, _, rfl, hsc, ?_⟩
      rw [decide_eq_true rfl]
      exact q _ s1
    · have hlen : xs.length = ys.length := Paired.length hP
      -- both of one kind
      refine ⟨_, rfl, by show 2 ≤ sizeLine; decide, fun t ht => ?_⟩
      have s1 := same_upd (o := .tup [.ty "list", .ty "tuple"]) ht
      have kinds : ∃ T, (T = "list" ∨ T = "tuple") ∧ (∀ H', Same H H' → TyOf K H' (.ref p) (.type T) ∧ TyOf K H' (.ref qq) (.type T)) ∧ PySem.W.kitAny K (.type T) (["list", "tuple"].map Value.type) = some true ∧ PySem.W.kitOne K (.type T) (.type "list") = some (decide (T = "list")) := by
        rcases hpq with ⟨h1, h2⟩ | ⟨h1, h2⟩
        · exact ⟨"list", .inl rfl, fun H' s => ⟨.lst (s _ _ h1), .lst (s _ _ h2)⟩, by kernel_rfl, by kernel_rfl⟩
        · exact ⟨"tuple", .inr rfl, fun H' s => ⟨.tup (s _ _ h1), .tup (s _ _ h2)⟩, by kernel_rfl, by kernel_rfl⟩
      obtain ⟨TT, hTT, hk, k1, k2⟩ := kinds
      refine ⟨_, t, .type TT, true, ["list", "tuple"], rfl, upd_same, (hk _ s1).2, ⟨_, rfl⟩, k1, _, rfl, iteT ?_⟩
      refine ⟨_, rfl, by show 2 ≤ sizeLine; decide, fun t2 ht2 => ?_⟩
      have s2 := s1.trans (same_upd (o := .tup [.ty "list", .ty "tuple"]) ht2)
      refine ⟨_, t2, .type TT, true, ["list", "tuple"], rfl, upd_same, (hk _ s2).1, ⟨_, rfl⟩, k1, _, rfl, iteF ?_⟩
      refine ⟨_, rfl, _, "list", .type TT, _, rfl, (hk _ s2).1, k2, _, rfl, _, "list", .type TT, _, rfl, (hk _ s2).2, k2, rfl, _, rfl, iteNS rfl ?_⟩
      have sq : ∀ H', Same H H' → (SqL K H' p xs ∨ SqT K H' p xs) ∧ (SqL K H' qq ys ∨ SqT K H' qq ys) := fun H' s => by
        rcases hpq with ⟨h1, h2⟩ | ⟨h1, h2⟩
        · exact ⟨.inl (SqL.of (s _ _ h1)), .inl (SqL.of (s _ _ h2))⟩
        · exact ⟨.inr (SqT.of (s _ _ h1)), .inr (SqT.of (s _ _ h2))⟩
      refine ⟨_, rfl, p, xs, rfl, (sq _ s2).1, _, rfl, qq, ys, rfl, (sq _ s2).2, rfl, _, rfl, iteNS (by rw [hlen]) ?_⟩
      -- the loop, of lists or of tuples
      have loop : ∀ (kk : SeqK), (∀ H', Same H H' → kk.Sq K H' p xs ∧ kk.Sq K H' qq ys) → ∀ (l : Addr) (H2 : Hp), Same H H2 → H2 l = none → ∀ (Q' : L2.St → Hp → Prop), (∀ σ H', Same H2 H' → H' l = some (.lst (xs.map fun _ => V.bl true)) → Q' σ H') →
          tForJ (Itz (fun H xs => kk.Sq K H p xs) fun H ys => kk.Sq K H qq ys) (gTup K 2 (gCons (gName 0) (gCons (gName 1) gNil))) (tBodyC tAll (tEmit l (tCall spR [] E0 (tCons (tVar 0) (tCons (tVar 1) tNil))))) (eC Q') [none, none] (upd H2 l (.lst [])) := by
        intro kk hkk l H2 sH hl Q' hQ'
        refine for_zip (xs := xs) (ys := ys) hlen (fun i σ H' => σ.length = 2 ∧ Same H2 H' ∧ H' l = some (.lst ((xs.take i).map fun _ => V.bl true))) ⟨rfl, same_upd hl, by rw [upd_same]; rfl⟩ (fun i σ H' h => hkk H' (sH.trans h.2.1)) ?_ ?_
        · rintro i x y p3 σ H' hx hy ⟨hσ, hs, hl'⟩ hp3
          match σ, hσ with
          | [x0, x1], _ =>
          have s3 := same_upd (o := .tup [x, y]) hp3
          refine ⟨p3, _, rfl, SqT.of upd_same, rfl, _, _, rfl, _, _, rfl, rfl, ?_⟩
          refine body_all ?_
          refine ⟨_, rfl, _, rfl, ?_⟩
          refine hR x y _ _ _ (hSR _ _ ((sH.trans hs).trans s3) x y (pairedGet hP hx hy)) fun H4 s4 => ?_
          refine ⟨_, s4 _ _ (s3 _ _ hl'), small1000 (by rw [List.length_map, List.length_take]; omega), rfl, fun b' u e' => ?_, ?_⟩
          · rw [upd_ne (ne_of_none e' hl)]; exact s4 _ _ (s3 _ _ (hs _ _ e'))
          · rw [upd_same, List.take_succ, hx, List.map_append]; rfl
        · rintro σ H' ⟨_, hs, hl'⟩
          rw [List.take_of_length_le (Nat.le_refl _)] at hl'
          exact hQ' σ H' hs hl'
      have fin : ∀ (l : Addr) (H2 : Hp), Same H H2 → ∀ (σ : L2.St) (H' : Hp), Same H2 H' → H' l = some (.lst (xs.map fun _ => V.bl true)) → ∃ (p : Addr) (bs : List Bool), [V.ref l] = [.ref p] ∧ SqL K H' p (bs.map V.bl) ∧ Q (.bl (bs.all id)) H' := fun l H2 sH σ H' hs hl' => by
        refine ⟨l, xs.map fun _ => true, rfl, SqL.of (by rw [hl', List.map_map]; rfl), ?_⟩
        have : (xs.map fun _ => true).all id = true := by simp
        rw [this]
        exact q H' (sH.trans hs)
      rcases hpq with ⟨h1, h2⟩ | ⟨h1, h2⟩
      · refine .inl ⟨_, rfl, _, rfl, p, qq, xs, ys, rfl, SqL.of (s2 _ _ h1), SqL.of (s2 _ _ h2), fun Z l hl => ?_⟩
        exact loop kL (fun H' s => ⟨SqL.of (s _ _ h1), SqL.of (s _ _ h2)⟩) l _ s2 hl _ fun σ H' hs hl' => fin l _ s2 σ H' hs hl'
      · refine .inr ⟨_, rfl, _, rfl, p, qq, xs, ys, rfl, SqT.of (s2 _ _ h1), SqT.of (s2 _ _ h2), fun Z l hl => ?_⟩
        exact loop kT (fun H' s => ⟨SqT.of (s _ _ h1), SqT.of (s _ _ h2)⟩) l _ s2 hl _ fun σ H' hs hl' => fin l _ s2 σ H' hs hl'
theorem ok_same {f : Addr} {fd : FuncData} (F : Fun K "_law_same" "_law_same" sSame f fd) (T : Txt mg) (mS : mg "_law_same" = some (.ref f)) (bS : L2.Binds K fd ["_law_told", "_law_due"] []) : ∀ n : Nat, FnOk P w K mg base CX0 (n + 1) f fd ["_law_told", "_law_due"] (spSame n)
 | 0 => (same_step (k := 0) F T mS bS FnOk.never (fun _ _ _ => False) (fun _ _ _ _ _ z => z) (fun _ _ _ _ _ z => z.elim)).imp fun vs H Q E h => by
  obtain ⟨a, b, e, h1, h2⟩ := h
  exact ⟨a, b, e, .inl h1, h2⟩
 | n + 1 => (same_step (k := n + 1) F T mS bS (ok_same F T mS bS n) (fun H a b => SameV H n a b) (fun H H' s a b z => SameV.same s z) (fun a b H Q E h q => ⟨a, b, rfl, h, q⟩)).imp fun vs H Q E h => by
  obtain ⟨a, b, e, h1, h2⟩ := h
  exact ⟨a, b, e, h1, h2⟩
end
end M03
namespace PySem.SeqAt
open AutoSeq1 (wpAny_loadPart')
open MeetsSeq MeetsSeq2 MeetsSeq3 SeqRoads2
end PySem.SeqAt
namespace L2
open PySem PySem.Spec PyProof.Rows
section
variable {X : Cx}
noncomputable def rNeNil (g : Bool → Bool) : R2 := fun x y H Q => ∃ p q xs, x = .ref p ∧ y = .ref q ∧ H p = some (.lst xs) ∧ H q = some (.lst []) ∧ Q (.bl (g (decide (xs = [])))) H
theorem op_neNil (hu : X.A.units + 1 < cLine) : OpR X (compareOp .NotEq) (rNeNil not) := by
 intro pins s σ H x y v u Q I rx ry h
 obtain ⟨p, q, xs, rfl, rfl, h1, h2, hq⟩ := h
 cases rx
 cases ry
 obtain ⟨us, r1, p1, _⟩ := I.list (SqL.of (K := X.K) h1)
 obtain ⟨ws, r2, p2, _⟩ := I.list (SqL.of (K := X.K) h2)
 have e2 : ws = [] := by cases r2; rfl
 subst e2
 cases xs with
 | nil =>
  have e1 : us = [] := by cases r1; rfl
  subst e1
  have k := SeqAt.RcNeAt.lists (A := X.A) (s := s) (e := fun _ => true) p1.isList p2.isList rfl (by omega) (fun j h1 _ => absurd h1 (by simp))
  exact k X.prog X.w X.xe _ ⟨.bl _, H, I, rfl, hq⟩
 | cons x xs =>
  have l1 := r1.length
  have k := SeqAt.RcNeAt.lists_lengths (A := X.A) (s := s) p1.isList p2.isList (by rw [List.size_toArray, List.size_toArray, ← l1]; simp) (by omega)
  exact k X.prog X.w X.xe _ ⟨.bl _, H, I, rfl, hq⟩
end
end L2
namespace M03
open PySem L2 PyProof.Rows
noncomputable abbrev sMixed : Stmt := top 44
noncomputable def spMixed : Sp := fun vs H Q _ => ∃ p l xs, vs = [.ref p, .ref l] ∧ PenAt H p ∧ l ≠ p ∧ H l = some (.lst xs) ∧ xs.length ≤ 1000 ∧ ∀ r ys H', Stp p H H' → r ≠ p → H' r = some (.lst ys) → ys.Perm xs → Q (.ref r) H'
theorem erase_perm {α : Type} : ∀ {l : List α} {k : Nat} {y : α}, l[k]? = some y → (y :: l.eraseIdx k).Perm l
 | x :: l, 0, y, h => by cases h; exact List.Perm.refl _
 | x :: l, k + 1, y, h => by
  have := erase_perm (l := l) (k := k) (y := y) (by simpa using h)
  exact (List.Perm.swap x y _).trans (this.cons x)
section
variable {P : Program} {w : World} {K : PySem.W.Frag} {mg : Str → Option Value} {base : Heap}
noncomputable abbrev nMix : List Str := ["_law_pen_here", "_law_things", "_law_rest", "_law_drawn"]
theorem scMixed : FnScope nMix ["_law_pen_here", "_law_things"] (defScope sMixed) := ⟨rfl, rfl, rfl, by decide +kernel, rfl, by decide +kernel, by decide +kernel⟩
theorem ok_mixed {f g1 : Addr} {fd d1 : FuncData} (F : Fun K "_law_mixed" "_law_mixed" sMixed f fd) (T : Txt mg) (a1 : At P w K mg base 1 "_law_draw" g1 d1 ["_law_pen_here", "_law_bound"] spDraw) : FnOk P w K mg base CX0 2 f fd ["_law_pen_here", "_law_things"] spMixed := by
 refine F.ok scMixed (fun vs H Q E h => ?_) (fun cdv A outer s H vs Q E hr h => ?_)
 ·obtain ⟨p, l, xs, rfl, _⟩ := h; rfl
 ·obtain ⟨p, l, xs, rfl, hp, hlp, hl, hz, q⟩ := h
  have nd := scMixed.nd
  refine ⟨_, pss_cons (ps_par (i := 2) (j := 3) rfl nd rfl rfl (by decide) rfl rfl (pa_k (pe_callTy call_list_of rfl T.list boot_list (pa_v (pv 1) pa_nil)) (pa_l (pe_lst pa_nil) pa_nil)) rfl) <|
   pss_cons (ps_while PassesOwn.never (pt_cmpR (op_neNil (hu_of hr)) (pv 2) (pe_lst pa_nil) (nomark _))
    (pss_one (ps_expr (pe_bm PySem.F.plainAttrs_list PySem.F.slot_list_append PySem.F.type_list_append mt_append (pv 3)
     (pa_k (pe_bm PySem.F.plainAttrs_list PySem.F.slot_list_pop PySem.F.type_list_pop mt_popAt (pv 2)
      (pa_k (pe_call a1.ok hr rfl a1.nm a1.kp a1.bd .nil pass0 (pa_v (pv 0) (pa_k (pe_callB call_len_seq rfl T.len PySem.boot_len (pa_v (pv 2) pa_nil)) pa_nil))) pa_nil)) pa_nil))))) <|
   pss_one (ps_ret (pv 3)), ?_⟩
  refine ⟨_, rfl, l, _, rfl, .inl (SqL.of hl), fun r hr0 => ?_⟩
  have s1 := same_upd (o := .lst xs) hr0
  refine ⟨by show 0 ≤ sizeLine; decide, fun d hd0 => ?_⟩
  have s2 := same_upd (o := .lst []) hd0
  refine ⟨_, _, rfl, ?_⟩
  have hpn : ∃ o, H p = some o := let ⟨x, y, e⟩ := hp; ⟨_, e⟩
  obtain ⟨op, hop⟩ := hpn
  have nrp : r ≠ p := (ne_of_none hop hr0).symm
  have ndp : d ≠ p := (ne_of_none (s1 _ _ hop) hd0).symm
  have nrd : r ≠ d := ne_of_none upd_same hd0
  have hdH : H d = none := s1.free hd0
  refine ⟨fun m σ H' => ∃ ys rest, m = rest.length ∧ σ = [some (.ref p), some (.ref l), some (.ref r), some (.ref d)] ∧ Stp p H H' ∧ H' r = some (.lst rest) ∧ H' d = some (.lst ys) ∧ (ys ++ rest).Perm xs,
   ⟨_, [], xs, rfl, rfl, (Stp.refl hp).same (s1.trans s2), s2 _ _ upd_same, upd_same, List.Perm.refl _⟩, ?_⟩
  rintro m σ H' ⟨ys, rest, rfl, rfl, st, hr', hd', pm⟩
  have hlen : ys.length + rest.length = xs.length := by rw [← pm.length_eq, List.length_append]
  refine ⟨_, rfl, by show 0 ≤ sizeLine; decide, fun ln hln => ?_⟩
  have sn := same_upd (o := .lst []) hln
  refine ⟨r, ln, _, rfl, rfl, sn _ _ hr', upd_same, _, rfl, ?_⟩
  refine iteB (fun z => ?_) fun z => ?_
  ·have hne : rest ≠ [] := by simpa using z
   have hpos : 0 < rest.length := List.length_pos_iff.mpr hne
   refine ⟨fun σ' H2 => ∃ ys' rest', rest'.length < rest.length ∧ σ' = [some (.ref p), some (.ref l), some (.ref r), some (.ref d)] ∧ Stp p H H2 ∧ H2 r = some (.lst rest') ∧ H2 d = some (.lst ys') ∧ (ys' ++ rest').Perm xs,
    fun σ' H2 ⟨ys', rest', hlt, e1, e2, e3, e4, e5⟩ => ⟨rest'.length, hlt, ys', rest', rfl, e1, e2, e3, e4, e5⟩, ?_⟩
   refine ⟨_, rfl, .inl ⟨rfl, _, SqL.of (sn _ _ hd')⟩, ?_⟩
   refine ⟨_, rfl, .inl ⟨rfl, _, SqL.of (sn _ _ hr')⟩, ?_⟩
   refine ⟨_, rfl, _, rfl, r, _, rfl, .inl (SqL.of (sn _ _ hr')), p, _, rfl, (st.same sn).pen, by omega, by omega, fun i H2 i0 i1 st2 => ?_⟩
   have hk : i.toNat < rest.length := by omega
   have hr2 := st2.keep r _ nrp (sn _ _ hr')
   have hd2 := st2.keep d _ ndp (sn _ _ hd')
   refine ⟨r, rest, i, i.toNat, rest[i.toNat], rfl, rfl, hr2, by omega, by omega, ?_, List.getElem?_eq_getElem hk, ?_⟩
   ·unfold seqIndex?
    have h0 : ¬ i < 0 := by omega
    simp only [if_neg h0]
    rw [if_pos (by simp only [Bool.and_eq_true, decide_eq_true_eq]; omega)]
   refine ⟨d, ys, _, rfl, rfl, by rw [upd_ne nrd.symm]; exact hd2, small1000 (by omega), ?_⟩
   refine ⟨ys ++ [rest[i.toNat]], rest.eraseIdx i.toNat, ?_, rfl, ?_, ?_, upd_same, ?_⟩
   ·rw [List.length_eraseIdx_of_lt hk]; omega
   ·exact ((((st.same sn).trans st2).updO hr0 hp).updO hdH hp)
   ·rw [upd_ne nrd, upd_same]
   ·rw [List.append_assoc]
    exact ((erase_perm (List.getElem?_eq_getElem hk)).append_left ys).trans pm
  ·have he : rest = [] := by simpa using z
   subst he
   rw [List.append_nil] at pm
   exact ⟨_, rfl, q d ys _ (st.same sn) ndp (sn _ _ hd') pm⟩
end
end M03
namespace M03
open PySem L2 PyProof.Rows
noncomputable abbrev sFull : Stmt := top 53
noncomputable abbrev Pr := Addr × Int × Int
noncomputable def pr0 (n : Nat) : List (Int × Int) := (List.range n).map fun i : Nat => (((i : Int) / 6), ((i : Int) % 6))
theorem pr_nodup : (pr0 24).Nodup := by decide +kernel
theorem pr_bound : ∀ x ∈ pr0 24, (0 ≤ x.1 ∧ x.1 ≤ 3) ∧ 0 ≤ x.2 ∧ x.2 ≤ 5 := by decide +kernel
theorem perm_map {α β : Type} {f : α → β} {ys zs : List β} (h : ys.Perm zs) : ∀ {L : List α}, zs = L.map f → ∃ L' : List α, L'.Perm L ∧ ys = L'.map f := by
 induction h with
 | nil =>
  intro L e
  cases L with
  | nil => exact ⟨[], List.Perm.refl _, rfl⟩
  | cons a l => cases e
 | cons x _ ih =>
  intro L e
  cases L with
  | nil => cases e
  | cons a l =>
   obtain ⟨rfl, e2⟩ := List.cons.inj e
   obtain ⟨L', p, e3⟩ := ih e2
   exact ⟨a :: L', p.cons a, by rw [e3]; rfl⟩
 | swap x y l0 =>
  intro L e
  match L, e with
  | a :: b :: l, e =>
   obtain ⟨rfl, e2⟩ := List.cons.inj e
   obtain ⟨rfl, e3⟩ := List.cons.inj e2
   exact ⟨b :: a :: l, List.Perm.swap a b l, by rw [e3]; rfl⟩
 | trans _ _ ih1 ih2 =>
  intro L e
  obtain ⟨L1, p1, e1⟩ := ih2 e
  obtain ⟨L2, p2, e2⟩ := ih1 e1
  exact ⟨L2, p2.trans p1, e2⟩
theorem cut_top (ys : List V) {n : Int} (h0 : 0 ≤ n) (h1 : n ≤ ys.length) : cutV ys none (some n) = ys.take n.toNat := by
 unfold cutV
 have e1 : HT.sIx ys.length 0 none = 0 := rfl
 have e2 : HT.sIx ys.length ys.length (some n) = n.toNat := by
  simp only [HT.sIx]
  first | omega | (split <;> omega)
 rw [e1, e2]
 simp
noncomputable def spFull : Sp := fun vs H Q _ => ∃ p, vs = [.ref p] ∧ PenAt H p ∧ ∀ a cl H', Stp p H H' → ClT H' a cl → ClOk cl → Q (.ref a) H'
section
variable {P : Program} {w : World} {K : PySem.W.Frag} {mg : Str → Option Value} {base : Heap}
noncomputable abbrev nFull : List Str := ["_law_pen_here", "_law_pairs"]
theorem scFull : FnScope nFull ["_law_pen_here"] (defScope sFull) := ⟨rfl, rfl, rfl, by decide +kernel, rfl, by decide +kernel, by decide +kernel⟩
theorem ndPl : (["_law_place"] : List Str).Nodup := by decide +kernel
theorem ndPP : (["_law_pair", "_law_pen_here"] : List Str).Nodup := by decide +kernel
theorem ok_full {f g1 g2 : Addr} {fd d1 d2 : FuncData} (F : Fun K "_law_full" "_law_full" sFull f fd) (T : Txt mg) (a1 : At P w K mg base 1 "_law_draw" g1 d1 ["_law_pen_here", "_law_bound"] spDraw) (a2 : At P w K mg base 2 "_law_mixed" g2 d2 ["_law_pen_here", "_law_things"] spMixed) : FnOk P w K mg base CX0 3 f fd ["_law_pen_here"] spFull := by
 refine F.ok scFull (fun vs H Q E h => ?_) (fun cdv A outer s H vs Q E hr h => ?_)
 ·obtain ⟨p, rfl, _⟩ := h; rfl
 ·obtain ⟨p, rfl, hp, q⟩ := h
  have nd := scFull.nd
  have r1 : Room 1 _ := hr.mono (by decide)
  refine ⟨_, pss_cons (ps_set (i := 1) nd rfl (Or.inl rfl) (pe_slice sl_list (pe_call a2.ok hr rfl a2.nm a2.kp a2.bd .nil pass0 (pa_v (pv 0) (pa_lc (pe_comp1 (defScope sFull).names nFull ["_law_place"] [] rfl (pi_range1 rfl T.range (pa_c pe_int pa_nil)) rfl rfl rfl (by decide +kernel)
    (fun Z => pg_name (i := 0) ndPl rfl (Or.inl rfl)) (fun Z => pts_nil) (fun Z => pe_tup (pa_b (pe_op op_fdiv (pv 0) pe_int) (pa_b (pe_op op_mod (pv 0) pe_int) pa_nil)))) pa_nil))) po_none (po_some (pe_op op_add pe_int (pe_call a1.ok r1 rfl a1.nm a1.kp a1.bd .nil pass0 (pa_v (pv 0) (pa_c pe_int pa_nil))))))) <|
   pss_one (ps_ret (pe_callTy call_tuple_of rfl T.tuple boot_tuple (pa_k (pe_callB call_sortedT rfl T.sorted boot_sorted (pa_lc (pe_comp1 (defScope sFull).names nFull ["_law_pair"] [("_law_pen_here", 0)] rfl (pi_list (pv 1)) rfl rfl rfl (by decide +kernel)
    (fun Z => pg_name (i := 0) ndPP rfl (Or.inl rfl)) (fun Z => pts_nil) (fun Z => pe_op op_catU (pv 0) (pe_tup (pa_b (pe_op op_add pe_int (pe_call a1.ok (hr.mono (by decide)) rfl a1.nm a1.kp a1.bd .nil pass0 (pa_v (pv 1) (pa_c pe_int pa_nil)))) pa_nil)))) pa_nil)) pa_nil))), ?_⟩
  refine ⟨_, rfl, 24, rfl, by decide, by decide, fun Z l hl0 => ?_⟩
  have hop : ∃ o, H p = some o := let ⟨x, y, e⟩ := hp; ⟨_, e⟩
  obtain ⟨op, hop⟩ := hop
  have nlp : l ≠ p := (ne_of_none hop hl0).symm
  refine for_range (lo := 0) (n := 24) (fun k σ H' => σ.length = 1 ∧ Same H H' ∧ ∃ L : List Pr, H' l = some (.lst (L.map fun z => V.ref z.1)) ∧ L.map (·.2) = pr0 k ∧ ∀ z ∈ L, H' z.1 = some (.tup [.int z.2.1, .int z.2.2])) ⟨rfl, same_upd hl0, [], by rw [upd_same]; rfl, rfl, fun z hz => by cases hz⟩ ?_ ?_
  ·rintro k σ H' hk ⟨hσ, hs, L, hl', hL, hLa⟩
   match σ, hσ with
   | [x0], _ =>
   refine body_name ?_
   refine ⟨_, rfl, _, _, rfl, rfl, ?_, ?_⟩
   ·exact ⟨by decide, by decide⟩
   refine ⟨_, rfl, _, _, rfl, rfl, (by decide : (0 : Int) < 6), by show 2 ≤ sizeLine; decide, fun t ht => ?_⟩
   have hll : L.length = k := by
    have := congrArg List.length hL
    unfold pr0 at this
    rw [List.length_map, List.length_map, List.length_range] at this
    exact this
   have s2 := same_upd (o := .tup [.int ((0 + (k : Int)) / 6), .int ((0 + (k : Int)) % 6)]) ht
   refine ⟨_, s2 _ _ hl', small1000 (by rw [List.length_map]; omega), rfl, fun b o e => ?_, L ++ [(t, (0 + (k : Int)) / 6, (0 + (k : Int)) % 6)], ?_, ?_, fun z hz => ?_⟩
   ·rw [upd_ne (ne_of_none e hl0)]; exact s2 _ _ (hs _ _ e)
   ·rw [upd_same, List.map_append]; rfl
   ·unfold pr0 at hL ⊢
    rw [List.map_append, hL, List.range_succ, List.map_append]
    have e0 : (0 + (k : Int)) = (k : Int) := by omega
    rw [e0]; rfl
   ·have hx : (upd H' t (.tup [.int ((0 + (k : Int)) / 6), .int ((0 + (k : Int)) % 6)])) z.1 = some (.tup [.int z.2.1, .int z.2.2]) := by
     rcases List.mem_append.mp hz with y | y
     ·exact s2 _ _ (hLa z y)
     ·rw [List.mem_singleton.mp y]; exact upd_same
    rw [upd_ne (fun y => by rw [y, s2 _ _ hl'] at hx; cases hx)]
    exact hx
  rintro σ H1 ⟨_, s1, L, hl1, hL, hLa⟩
  have hp1 : PenAt H1 p := ((Stp.refl hp).same s1).pen
  have hLl : L.length = 24 := by have := congrArg List.length hL; rw [List.length_map] at this; rw [this]; rfl
  refine ⟨p, l, _, rfl, hp1, nlp, hl1, by rw [List.length_map, hLl]; decide, fun r ys H2 st2 nrp hr2 pm => ?_⟩
  obtain ⟨L', pm', rfl⟩ := perm_map pm rfl
  have hL'l : L'.length = 24 := by rw [pm'.length_eq, hLl]
  have st02 : Stp p H H2 := ((Stp.refl hp).same s1).trans st2
  have ne1 : ∀ {H' : Hp} {b : Addr} {xs : List V}, PenAt H' p → H' b = some (.tup xs) → b ≠ p := fun hp' e => PenAt.ne hp' e (fun xs z => by cases z)
  have hLa2 : ∀ z ∈ L', H2 z.1 = some (.tup [.int z.2.1, .int z.2.2]) := fun z hz => st2.keep _ _ (ne1 hp1 (hLa z (pm'.mem_iff.mp hz))) (hLa z (pm'.mem_iff.mp hz))
  refine ⟨_, rfl, p, 3, rfl, st02.pen, by decide, by decide, fun dn H3 d0 d1 st3 => ?_⟩
  have hr3 := st3.keep r _ nrp hr2
  refine ⟨_, _, rfl, rfl, _, rfl, r, _, rfl, SqL.of hr3, fun l2 hl2 => ?_⟩
  rw [cut_top _ (by omega) (by rw [List.length_map, hL'l]; omega), ← List.map_take]
  generalize hn : (10 + dn).toNat = n
  have hn1 : 10 ≤ n := by omega
  have hn2 : n ≤ 12 := by omega
  have hLl2 : (L'.take n).length = n := by rw [List.length_take, hL'l]; omega
  have hK : ((L'.take n).map (·.2)).Nodup := by
   rw [List.map_take]
   have : (L'.map (·.2)).Nodup := (pm'.map (·.2)).nodup_iff.mpr (by rw [hL]; exact pr_nodup)
   exact this.sublist (List.take_sublist _ _)
  have hB : ∀ z ∈ L'.take n, (0 ≤ z.2.1 ∧ z.2.1 ≤ 3) ∧ 0 ≤ z.2.2 ∧ z.2.2 ≤ 5 := fun z hz => by
   have h1 := pm'.mem_iff.mp (List.mem_of_mem_take hz)
   exact pr_bound z.2 (by rw [← hL]; exact List.mem_map_of_mem h1)
  have st03 := st02.trans st3
  have hLa3 : ∀ z ∈ L'.take n, H3 z.1 = some (.tup [.int z.2.1, .int z.2.2]) := fun z hz => st3.keep _ _ (ne1 st02.pen (hLa2 z (List.mem_of_mem_take hz))) (hLa2 z (List.mem_of_mem_take hz))
  generalize L'.take n = M at hK hB hLa3 hLl2
  have s4 := same_upd (o := .lst (M.map fun z => V.ref z.1)) hl2
  have st04 := st03.same s4
  have n2 := st03.none hl2
  refine ⟨_, rfl, l2, rfl, ⟨_, SqL.of upd_same⟩, fun Z2 l3 hl3 => ?_⟩
  have n3 := st04.none hl3
  have n32 : l3 ≠ l2 := fun z => by rw [z, upd_same] at hl3; cases hl3
  refine for_list (K := K) (a := l2) (xs := M.map fun z => V.ref z.1) (fun i σ H' => (∃ o, σ = [o, some (.ref p)]) ∧ Stp p H H' ∧ H' l2 = some (.lst (M.map fun z => V.ref z.1)) ∧ (∀ z ∈ M, H' z.1 = some (.tup [.int z.2.1, .int z.2.2])) ∧ ∃ (zs : List (Addr × List Int)) (es : List C3), H' l3 = some (.lst (zs.map fun z => V.ref z.1)) ∧ zs.map (·.2) = es.map row ∧ es.map key2 = (M.take i).map (·.2) ∧ (∀ c ∈ es, 1 ≤ c.2.2 ∧ c.2.2 ≤ 20) ∧ ∀ z ∈ zs, H' z.1 = some (.tup (z.2.map V.int)))
   ⟨⟨_, rfl⟩, st04.updO n3.1 hp, by rw [upd_ne n32.symm, upd_same], fun z hz => ?_, [], [], by rw [upd_same]; rfl, rfl, rfl, (fun c hc => by cases hc), fun z hz => by cases hz⟩ (fun i σ H' _ h => SqL.of h.2.2.1) ?_ ?_
  ·have := s4 _ _ (hLa3 z hz)
   rw [upd_ne (fun y => by rw [y, hl3] at this; cases this)]
   exact this
  ·rintro i x σ H' hx ⟨⟨o, rfl⟩, st, h2', hM', zs, es, h3', hzr, hek, heb, hza⟩
   rw [List.getElem?_map] at hx
   cases hz : M[i]? with
   | none => rw [hz] at hx; cases hx
   | some z =>
   rw [hz] at hx; cases hx
   have hzm : z ∈ M := List.mem_of_getElem? hz
   have hi : i < M.length := (List.getElem?_eq_some_iff.mp hz).1
   have hel : es.length = i := by
    have := congrArg List.length hek
    rw [List.length_map, List.length_map, List.length_take] at this; omega
   have hzl : zs.length = i := by
    have := congrArg List.length hzr
    rw [List.length_map, List.length_map] at this; omega
   refine body_name ?_
   refine ⟨_, rfl, _, rfl, p, 20, rfl, st.pen, by decide, by decide, fun m H4 m0 m1 st4 => ?_⟩
   refine ⟨_, _, rfl, rfl, by show 1 ≤ sizeLine; decide, fun t ht => ?_⟩
   have s5 := same_upd (o := .tup [.int (1 + m)]) ht
   have hz4 := st4.keep _ _ (ne1 st.pen (hM' z hzm)) (hM' z hzm)
   refine ⟨z.1, t, _, [.int (1 + m)], rfl, rfl, s5 _ _ hz4, upd_same, by show 2 + 1 ≤ sizeLine; decide, fun u H6 s6 hu6 => ?_⟩
   have s56 := s5.trans s6
   have h36 := s56 _ _ (st4.keep _ _ n3.2 h3')
   have keepT : ∀ {b : Addr} {xs : List V}, H' b = some (.tup xs) → (upd H6 l3 (.lst (zs.map (fun z => V.ref z.1) ++ [.ref u]))) b = some (.tup xs) := fun {b xs} e => by
    have e6 := s56 _ _ (st4.keep _ _ (ne1 st.pen e) e)
    rw [upd_ne (fun y => by rw [y, h36] at e6; cases e6)]
    exact e6
   refine ⟨_, h36, small1000 (by rw [List.length_map]; omega), ⟨_, rfl⟩, ((st.trans st4).same s56).updO n3.1 hp, ?_, fun z' hz' => keepT (hM' z' hz'), zs ++ [(u, row (z.2.1, z.2.2, 1 + m))], es ++ [(z.2.1, z.2.2, 1 + m)], ?_, ?_, ?_, fun c hc => ?_, fun z' hz' => ?_⟩
   ·rw [upd_ne n32.symm]; exact s56 _ _ (st4.keep _ _ n2.2 h2')
   ·rw [upd_same, List.map_append]; rfl
   ·rw [List.map_append, hzr, List.map_append]; rfl
   ·rw [List.map_append, hek, List.take_succ, hz, List.map_append]; rfl
   ·rcases List.mem_append.mp hc with y | y
    ·exact heb c y
    ·rw [List.mem_singleton.mp y]; exact ⟨by show 1 ≤ 1 + m; omega, by show 1 + m ≤ 20; omega⟩
   ·rcases List.mem_append.mp hz' with y | y
    ·exact keepT (hza z' y)
    ·rw [List.mem_singleton.mp y]
     rw [upd_ne (fun y => by
      have := hu6
      rw [show u = l3 from y, h36] at this; cases this)]
     exact hu6
  ·rintro σ H' ⟨_, st, h2', hM', zs, es, h3', hzr, hek, heb, hza⟩
   rw [List.length_map, List.take_of_length_le (Nat.le_refl _)] at hek
   have hel : es.length = n := by
    have := congrArg List.length hek
    rw [List.length_map, List.length_map] at this; omega
   have hzl : zs.length = es.length := by
    have := congrArg List.length hzr
    rw [List.length_map, List.length_map] at this; exact this
   have hrow : ∀ z ∈ zs, z.2 ≠ [] := fun z hz => by
    have : z.2 ∈ es.map row := by rw [← hzr]; exact List.mem_map_of_mem hz
    obtain ⟨c, _, e⟩ := List.mem_map.mp this
    rw [← e]; unfold row; simp
   refine ⟨l3, zs, rfl, SqL.of h3', fun z hz => ⟨hza z hz, hrow z hz⟩, by omega, fun l4 zs' hl4 hs2 => ?_⟩
   obtain ⟨gO, gP, gR⟩ := clOk_of hzr hs2 (by omega) (by omega) (fun c hc => by
     have h1 : key2 c ∈ M.map (·.2) := by rw [← hek]; exact List.mem_map_of_mem hc
     obtain ⟨z, hz, e⟩ := List.mem_map.mp h1
     have hb := hB z hz
     have e1 : z.2.1 = c.1 := congrArg Prod.fst e
     have e2 : z.2.2 = c.2.1 := congrArg Prod.snd e
     rw [e1, e2] at hb
     exact ⟨hb.1, hb.2, heb c hc⟩) (by rw [hek]; exact hK)
   have s5 := same_upd (o := .lst (zs'.map fun z => V.ref z.1)) hl4
   refine ⟨l4, _, rfl, .inl ⟨SqL.of upd_same, fun a' ha' => ?_⟩⟩
   have s6 := same_upd (o := .tup (zs'.map fun z => V.ref z.1)) ha'
   refine q a' _ _ ((st.same s5).same s6) (clT_of upd_same fun z hz => ?_) gO
   have hm := hs2.1.mem_iff.mp hz
   rw [← gR z hz]
   exact s6 _ _ (s5 _ _ (hza z hm))
end
end M03
namespace L2
open PySem PySem.Spec PyProof.Rows
section
variable {X : Cx}
end
end L2
namespace Srt
open PySem PySem.W PyProof.Rows L2
noncomputable def fl : List (Int × Int) → List Int
 | [] => []
 | c :: cs => c.1 :: c.2 :: fl cs
end Srt
namespace L2
open PySem PySem.Spec PyProof.Rows Srt
section
variable {X : Cx}
end
end L2
namespace Grd
noncomputable def pos (n : Int) : Bool := decide (0 ≤ n)
end Grd
namespace Wlk
noncomputable abbrev Pl := Int × Int
noncomputable abbrev WStep := Pl × Pl
noncomputable def cout (nw ne sw se : Bool) : Fin 4 → Bool
 | 0 => se && !ne
 | 1 => sw && !se
 | 2 => nw && !sw
 | 3 => ne && !nw
noncomputable def cin (nw ne sw se : Bool) : Fin 4 → Bool
 | 0 => sw && !nw
 | 1 => nw && !ne
 | 2 => ne && !se
 | 3 => se && !sw
noncomputable def nx (nw ne sw se : Bool) (d : Fin 4) : Fin 4 := if cout nw ne sw se (d + 1) = true then d + 1 else if cout nw ne sw se d = true then d else d + 3
section
variable (land : List Pl) (b : Pl)
noncomputable def bNW : Bool := decide ((b.1 - 1, b.2 - 1) ∈ land)
noncomputable def bNE : Bool := decide ((b.1 - 1, b.2) ∈ land)
noncomputable def bSW : Bool := decide ((b.1, b.2 - 1) ∈ land)
noncomputable def bSE : Bool := decide ((b.1, b.2) ∈ land)
noncomputable abbrev cI := cin (bNW land b) (bNE land b) (bSW land b) (bSE land b)
end
section
variable {land : List Pl} {ss : List WStep}
end
end Wlk
namespace Cyc
section
variable {α : Type} [DecidableEq α]
noncomputable def it (f : α → α) : Nat → α → α
 | 0, s => s
 | n + 1, s => f (it f n s)
variable {l : List α} {f : α → α}
end
end Cyc
namespace Grd
open PySem PyProof.Rows
end Grd
namespace L2
open PySem Grd
end L2
namespace L2
open PySem PySem.Spec PyProof.Rows Grd Wlk
section
variable {X : Cx} {es : List Expr} {te : TE} {t : TA}
end
end L2
namespace L2
open PySem PySem.Spec PyProof.Rows Srt
section
variable {X : Cx}
theorem op_neT1 (hu : X.A.units + 1 < cLine) : OpR X (compareOp .NotEq) (fun x y H Q => ∃ p q xs, x = .ref p ∧ y = .ref q ∧ H p = some (.tup xs) ∧ H q = some (.tup []) ∧ Q (.bl (!xs.isEmpty)) H) := by
 intro pins s σ H x y v u Q I rx ry h
 obtain ⟨p, q, xs, rfl, rfl, h1, h2, hq⟩ := h
 cases rx
 cases ry
 obtain ⟨us, r1, p1, _⟩ := I.tuple (SqT.of (K := X.K) h1)
 obtain ⟨ws, r2, p2, _⟩ := I.tuple (SqT.of (K := X.K) h2)
 have e2 : ws = [] := by cases r2; rfl
 subst e2
 have l1 := r1.length
 have k := SeqAt.RcNeAt.tuples (A := X.A) (s := s) (e := fun _ => true) p1 p2 (by omega) (fun j _ h2 => absurd h2 (by simp))
 have e : (!((List.range (min us.toArray.size ([] : List Value).toArray.size)).all (fun _ => true) && us.toArray.size == ([] : List Value).toArray.size)) = !xs.isEmpty := by
  cases xs with
  | nil => cases us with | nil => rfl | cons _ _ => simp at l1
  | cons _ _ => cases us with | nil => simp at l1 | cons _ _ => simp
 rw [e] at k
 exact k X.prog X.w X.xe _ ⟨.bl _, H, I, rfl, hq⟩
end
end L2
namespace M03
open PySem L2 PyProof.Rows
noncomputable abbrev sLaidL : Stmt := top 50
noncomputable abbrev sDeniedL : Stmt := top 51
noncomputable def Told (H : Hp) (Q : VK) (xs : List V) : Prop := ∀ t H', Same H H' → H' t = some (.tup xs) → Q (.ref t) H'
noncomputable def spLaidL : Sp := fun vs H Q _ => ∃ a b cl c, vs = [.ref a, .ref b] ∧ ClT H a cl ∧ ClOk cl ∧ H b = some (tupC c) ∧ NumOk c ∧
 (kin cl c = true → Told H Q [.str "no", .str "there"]) ∧ (kin cl c = false → cl.length = 12 → Told H Q [.str "no", .str "many", .int 13, .int 12]) ∧
 (kin cl c = false → cl.length < 12 → ∀ a' cl' t H', Same H H' → ClT H' a' cl' → ClOk cl' → cl'.Perm (cl ++ [c]) → H' t = some (.tup [.str "told", .ref a']) → Q (.ref t) H')
noncomputable def spDeniedL : Sp := fun vs H Q _ => ∃ a b cl c, vs = [.ref a, .ref b] ∧ ClT H a cl ∧ ClOk cl ∧ H b = some (tupC c) ∧ NumOk c ∧
 (c ∉ cl → Told H Q [.str "no", .str "missing"]) ∧ (c ∈ cl → cl.length = 1 → Told H Q [.str "no", .str "claims"]) ∧
 (c ∈ cl → 2 ≤ cl.length → ∀ a' t H', Same H H' → ClT H' a' (cl.filter fun x => decide (x ≠ c)) → H' t = some (.tup [.str "told", .ref a']) → Q (.ref t) H')
theorem rest_nil {cl : List C3} (G : ClOk cl) {c : C3} (hm : c ∈ cl) : (cl.filter fun x => decide (x ≠ c)) = [] ↔ cl.length = 1 := by
 have hn : cl.Nodup := by
  have := keys_nodup G
  exact (List.pairwise_map.mp this).imp fun h e => h (by rw [e])
 constructor
 ·intro h
  match cl, hn, hm, h with
  | [x], _, _, _ => rfl
  | x :: y :: l, hn, hm, h =>
   have hx := List.filter_eq_nil_iff.mp h x List.mem_cons_self
   have hy := List.filter_eq_nil_iff.mp h y (List.mem_cons_of_mem _ List.mem_cons_self)
   simp at hx hy
   have := (List.nodup_cons.mp hn).1
   rw [hx, hy] at this
   exact absurd List.mem_cons_self this
 ·intro h
  match cl, hm, h with
  | [x], hm, _ =>
   rw [List.mem_singleton.mp hm]
   simp
section
variable {P : Program} {w : World} {K : PySem.W.Frag} {mg : Str → Option Value} {base : Heap}
noncomputable abbrev nLL : List Str := ["_law_claims_here", "_law_claim"]
theorem scLaidL : FnScope nLL ["_law_claims_here", "_law_claim"] (defScope sLaidL) := ⟨rfl, rfl, rfl, by decide +kernel, rfl, by decide +kernel, by decide +kernel⟩
theorem ndOC' : (["_law_one", "_law_claim"] : List Str).Nodup := by decide +kernel
theorem ok_laidL {f : Addr} {fd : FuncData} (F : Fun K "_law_laid" "_law_laid" sLaidL f fd) (T : Txt mg) : FnOk P w K mg base CX0 1 f fd ["_law_claims_here", "_law_claim"] spLaidL := by
 refine F.ok scLaidL (fun vs H Q E h => ?_) (fun cdv A outer s H vs Q E hr h => ?_)
 ·obtain ⟨a, b, cl, c, rfl, _⟩ := h; rfl
 ·obtain ⟨a, b, cl, c, rfl, hA, G, hb, hn, q1, q2, q3⟩ := h
  have hu := hu1_of hr
  refine ⟨_, pss_cons (ps_if (pt_cmpR (op_neNil (hu_of hr)) (pe_comp1 (defScope sLaidL).names nLL ["_law_one"] [("_law_claim", 1)] rfl (pi_tup (pv 0)) rfl rfl rfl (by decide +kernel)
    (fun Z => pg_name (i := 0) ndOC' rfl (Or.inl rfl)) (fun Z => pts_one (pt_cmpR (op_eqD 1 hu) (pe_slice sl_tupU (pv 0) po_none (po_some pe_int)) (pe_slice sl_tupU (pv 1) po_none (po_some pe_int)) (nomark _))) (fun Z => pv 0)) (pe_lst pa_nil) (nomark _)) (pss_one (ps_ret (pe_tup (pa_c pe_str (pa_c pe_str pa_nil))))) pss_nil) <|
   pss_cons (ps_if (pt_cmpR op_gt (pe_callB call_len_seq rfl T.len PySem.boot_len (pa_v (pv 0) pa_nil)) pe_int (nomark _)) (pss_one (ps_ret (pe_tup (pa_c pe_str (pa_c pe_str (pa_c pe_int (pa_c pe_int pa_nil))))))) pss_nil) <|
   pss_one (ps_ret (pe_tup (pa_c pe_str (pa_k (pe_callTy call_tuple_of rfl T.tuple boot_tuple (pa_k (pe_callB call_sortedT rfl T.sorted boot_sorted (pa_b (pe_op op_cat (pe_callTy call_list_of rfl T.list boot_list (pa_v (pv 0) pa_nil)) (pe_lst (pa_v (pv 1) pa_nil))) pa_nil)) pa_nil)) pa_nil)))), ?_⟩
  obtain ⟨bs, ha, hC⟩ := hA
  have hl : bs.length = cl.length := Paired.length hC
  have h12 := G.l12
  refine ⟨_, rfl, a, rfl, ⟨_, SqT.of ha⟩, fun Z l hl0 => ?_⟩
  refine comp_clN (fun y => decide (key2 y = key2 c)) wk_tup (fun H' hs => SqT.of (hs _ _ ha)) hC hl0 (by omega) (fun b' y H' Q' he hs hq => ?_) fun σ H2 bs' s2 hl2 hC2 => ?_
  ·refine ⟨_, rfl, _, rfl, b', _, rfl, he, fun p1 H3 s3 hp1 => ?_⟩
   refine ⟨_, rfl, _, rfl, b, _, rfl, s3 _ _ (hs _ _ hb), fun p2 H4 s4 hp2 => ?_⟩
   refine ⟨p1, p2, [.int y.1, .int y.2.1], [.int c.1, .int c.2.1], [decide (y.1 = c.1), decide (y.2.1 = c.2.1)], rfl, rfl, .inl ⟨s4 _ _ hp1, hp2⟩, ⟨EqD.int _ _ _, EqD.int _ _ _, trivial⟩, _, rfl, ?_⟩
   have e : [decide (y.1 = c.1), decide (y.2.1 = c.2.1)].all id = decide (key2 y = key2 c) := by
    unfold key2
    rw [Bool.eq_iff_iff]
    simp [Prod.ext_iff]
   rw [e]
   exact hq _ (s3.trans s4)
  have hlb : bs'.length = (cl.filter fun y => decide (key2 y = key2 c)).length := Paired.length hC2
  have hkin : (!decide (bs'.map V.ref = [])) = kin cl c := by
   unfold kin
   rw [Bool.eq_iff_iff]
   simp only [Bool.not_eq_true', decide_eq_false_iff_not, List.any_eq_true]
   constructor
   ·intro h
    have h1 : 0 < bs'.length := by
     rcases Nat.eq_zero_or_pos bs'.length with z | z
     ·rw [List.length_eq_zero_iff.mp z] at h; exact absurd rfl h
     ·exact z
    rw [hlb] at h1
    obtain ⟨y, hy⟩ := List.exists_mem_of_length_pos h1
    exact ⟨y, (List.mem_filter.mp hy).1, (List.mem_filter.mp hy).2⟩
   ·rintro ⟨y, hy, e⟩ h
    have : bs'.length = 0 := by have := congrArg List.length h; simpa using this
    rw [hlb] at this
    have hm : y ∈ cl.filter fun y => decide (key2 y = key2 c) := List.mem_filter.mpr ⟨hy, e⟩
    rw [List.length_eq_zero_iff.mp this] at hm
    cases hm
  refine ⟨by show 0 ≤ sizeLine; decide, fun ln hln => ?_⟩
  have s3 := same_upd (o := .lst []) hln
  refine ⟨l, ln, _, rfl, rfl, s3 _ _ hl2, upd_same, _, rfl, ?_⟩
  rw [hkin]
  have s23 := s2.trans s3
  refine iteB (fun hk => ?_) fun hk => ?_
  ·refine ⟨by show 2 ≤ sizeLine; decide, fun t ht => q1 hk t _ (s23.trans (same_upd ht)) upd_same⟩
  have ha3 := s23 _ _ ha
  refine ⟨_, rfl, a, _, rfl, .inr (SqT.of ha3), _, _, rfl, rfl, _, rfl, ite2d (fun hz => ?_) fun hz => ?_⟩
  ·have h12e : cl.length = 12 := by rw [List.length_map] at hz; omega
   refine ⟨by show 4 ≤ sizeLine; decide, fun t ht => q2 hk h12e t _ (s23.trans (same_upd ht)) upd_same⟩
  have hlt : cl.length < 12 := by rw [List.length_map] at hz; omega
  have q := q3 hk hlt
  have hk' : ∀ x ∈ cl, key2 x ≠ key2 c := fun x hx e => by
   have := List.any_eq_false.mp hk x hx
   simp [e] at this
  refine ⟨_, rfl, a, _, rfl, .inr (SqT.of ha3), fun l4 hl4 => ?_⟩
  have s4 := same_upd (o := .lst (bs.map V.ref)) hl4
  refine ⟨_, rfl, by show 1 ≤ sizeLine; decide, fun l5 hl5 => ?_⟩
  have s5 := same_upd (o := .lst [.ref b]) hl5
  refine ⟨l4, l5, _, _, rfl, rfl, s5 _ _ upd_same, upd_same, by rw [List.length_map, sizeLine_eq]; show _ + 1 ≤ _; omega, fun l6 hl6 => ?_⟩
  have s6 := same_upd (o := .lst (bs.map V.ref ++ [.ref b])) hl6
  have sA := (((s23.trans s4).trans s5).trans s6)
  obtain ⟨zs, z1, z2, z3⟩ := clP_zs (hC.ext sA.ext)
  have hb6 := sA _ _ hb
  refine ⟨l6, zs ++ [(b, row c)], rfl, SqL.of (by rw [upd_same, List.map_append, ← z1, List.map_map]; rfl), fun z hz => ?_, by rw [List.length_append]; have := congrArg List.length z2; rw [List.length_map, List.length_map] at this; show zs.length + 1 < 64; omega, fun l7 zs' hl7 hs2 => ?_⟩
  ·rcases List.mem_append.mp hz with y | y
   ·exact z3 z y
   ·rw [List.mem_singleton.mp y]
    exact ⟨hb6, by unfold row; simp⟩
  have hzr : (zs ++ [(b, row c)]).map (·.2) = (cl ++ [c]).map row := by rw [List.map_append, z2, List.map_append]; rfl
  obtain ⟨gO, gP, gR⟩ := clOk_of hzr hs2 (by rw [List.length_append]; show 1 ≤ cl.length + 1; omega) (by rw [List.length_append]; show cl.length + 1 ≤ 12; omega) (fun x hx => by
    rcases List.mem_append.mp hx with y | y
    ·exact G.num x y
    ·rw [List.mem_singleton.mp y]; exact hn) (by
   rw [List.map_append, List.nodup_append]
   refine ⟨keys_nodup G, by simp, fun x hx y hy e => ?_⟩
   obtain ⟨d, hd, rfl⟩ := List.mem_map.mp hx
   have hy' : y = key2 c := by simpa using hy
   exact hk' d hd (e.trans hy'))
  have s7 := same_upd (o := .lst (zs'.map fun z => V.ref z.1)) hl7
  refine ⟨l7, _, rfl, .inl ⟨SqL.of upd_same, fun a' ha' => ?_⟩⟩
  have s8 := same_upd (o := .tup (zs'.map fun z => V.ref z.1)) ha'
  refine ⟨by show 2 ≤ sizeLine; decide, fun t ht => ?_⟩
  have s9 := same_upd (o := .tup [.str "told", .ref a']) ht
  refine q a' _ t _ (((sA.trans s7).trans s8).trans s9) (clT_of (s9 _ _ upd_same) fun z hz => ?_) gO gP upd_same
  have hm := hs2.1.mem_iff.mp hz
  rw [← gR z hz]
  rcases List.mem_append.mp hm with y | y
  ·exact s9 _ _ (s8 _ _ (s7 _ _ (z3 z y).1))
  ·rw [List.mem_singleton.mp y]; exact s9 _ _ (s8 _ _ (s7 _ _ hb6))
noncomputable abbrev nDL : List Str := ["_law_claims_here", "_law_claim", "_law_rest"]
theorem scDeniedL : FnScope nDL ["_law_claims_here", "_law_claim"] (defScope sDeniedL) := ⟨rfl, rfl, rfl, by decide +kernel, rfl, by decide +kernel, by decide +kernel⟩
theorem ok_deniedL {f : Addr} {fd : FuncData} (F : Fun K "_law_denied" "_law_denied" sDeniedL f fd) (T : Txt mg) : FnOk P w K mg base CX0 1 f fd ["_law_claims_here", "_law_claim"] spDeniedL := by
 refine F.ok scDeniedL (fun vs H Q E h => ?_) (fun cdv A outer s H vs Q E hr h => ?_)
 ·obtain ⟨a, b, cl, c, rfl, _⟩ := h; rfl
 ·obtain ⟨a, b, cl, c, rfl, hA, G, hb, hn, q1, q2, q3⟩ := h
  have hu := hu1_of hr
  have nd := scDeniedL.nd
  refine ⟨_, pss_cons (ps_if (pt_cmpR (op_notInD 1 hu) (pv 1) (pv 0) rfl) (pss_one (ps_ret (pe_tup (pa_c pe_str (pa_c pe_str pa_nil))))) pss_nil) <|
   pss_cons (ps_set (i := 2) nd rfl (Or.inl rfl) (pe_callTy call_tuple_of rfl T.tuple boot_tuple (pa_lc (pe_comp1 (defScope sDeniedL).names nDL ["_law_one"] [("_law_claim", 1)] rfl (pi_tup (pv 0)) rfl rfl rfl (by decide +kernel)
    (fun Z => pg_name (i := 0) ndOC' rfl (Or.inl rfl)) (fun Z => pts_one (pt_cmpR (op_neD 0 (hu_of hr)) (pv 0) (pv 1) (nomark _))) (fun Z => pv 0)) pa_nil))) <|
   pss_one (ps_ret (pe_ifExp (pt_cmpR (op_neT1 (hu_of hr)) (pv 2) (pe_tup pa_nil) (nomark _)) (pe_tup (pa_c pe_str (pa_v (pv 2) pa_nil))) (pe_tup (pa_c pe_str (pa_c pe_str pa_nil))))), ?_⟩
  obtain ⟨bs, ha, hC⟩ := hA
  have hl : bs.length = cl.length := Paired.length hC
  have h12 := G.l12
  have h1 := G.l1
  refine ⟨_, rfl, _, rfl, a, _, _, rfl, .inl ha, e3_cl hb hC, _, rfl, ?_⟩
  have e1 : (cl.map fun y => eq3 y c).any id = decide (c ∈ cl) := by
   rw [List.any_map, Bool.eq_iff_iff, List.any_eq_true, decide_eq_true_eq]
   constructor
   ·rintro ⟨y, hy, e⟩
    have : eq3 y c = true := e
    rw [eq3_eq, decide_eq_true_eq] at this
    exact this ▸ hy
   ·intro h
    exact ⟨c, h, by show eq3 c c = true; rw [eq3_eq]; simp⟩
  rw [e1]
  refine iteB (fun z => ⟨by show 2 ≤ sizeLine; decide, fun t ht => q1 (by simpa using z) t _ (same_upd ht) upd_same⟩) fun z => ?_
  have hm : c ∈ cl := by simpa using z
  refine ⟨_, rfl, a, rfl, ⟨_, SqT.of ha⟩, fun Z l hl' => ?_⟩
  refine comp_clN (fun x => decide (x ≠ c)) wk_tup (fun H' hs => SqT.of (hs _ _ ha)) hC hl' (by omega) (fun b' y H' Q' he hs hq => ?_) fun σ H' bs' hs hl2 hC2 => ?_
  ·refine ⟨_, rfl, _, rfl, b', b, _, _, _, rfl, rfl, .inl ⟨he, hs _ _ hb⟩, e3_row y c, _, rfl, ?_⟩
   have ed : (!([decide (y.1 = c.1), decide (y.2.1 = c.2.1), decide (y.2.2 = c.2.2)].all id)) = decide (y ≠ c) := by
    show (!(eq3 y c)) = _
    rw [eq3_eq]; simp
   rw [ed]
   exact hq _ (Same.refl _)
  refine ⟨l, _, rfl, .inl ⟨SqL.of hl2, fun a' ha' => ?_⟩⟩
  have s3 := same_upd (o := .tup (bs'.map V.ref)) ha'
  refine ⟨_, rfl, by show 0 ≤ sizeLine; decide, fun t0 ht0 => ?_⟩
  have s4 := same_upd (o := .tup []) ht0
  refine ⟨a', t0, _, rfl, rfl, s4 _ _ upd_same, upd_same, _, rfl, ?_⟩
  have hlb : bs'.length = (cl.filter fun x => decide (x ≠ c)).length := Paired.length hC2
  have rn := rest_nil G hm
  have sA := (hs.trans s3).trans s4
  refine iteB (fun z => ?_) fun z => ?_
  ·have h2 : 2 ≤ cl.length := by
    have : ¬ cl.length = 1 := fun e => by
     have e0 := rn.mpr e
     rw [e0] at hlb
     have : bs' = [] := List.length_eq_zero_iff.mp hlb
     rw [this] at z
     cases z
    omega
   refine ⟨_, rfl, by show 2 ≤ sizeLine; decide, fun t ht => ?_⟩
   have s5 := same_upd (o := .tup [.str "told", .ref a']) ht
   exact q3 hm h2 a' t _ (sA.trans s5) ⟨bs', s5 _ _ (s4 _ _ upd_same), Paired.mapP hC2 fun _ _ e => s5 _ _ (s4 _ _ (s3 _ _ e))⟩ upd_same
  ·have h1' : cl.length = 1 := by
    refine rn.mp (List.length_eq_zero_iff.mp ?_)
    rw [← hlb]
    simpa using z
   exact ⟨by show 2 ≤ sizeLine; decide, fun t ht => q2 hm h1' t _ (sA.trans (same_upd ht)) upd_same⟩
end
end M03
namespace Set4
open PySem PyProof.Rows
noncomputable def L (b0 b1 b2 b3 : Bool) : List Nat := (cond b0 [0] []) ++ ((cond b1 [1] []) ++ ((cond b2 [2] []) ++ (cond b3 [3] [])))
noncomputable def mem4 (S : Nat → Bool) : List Nat := L (S 0) (S 1) (S 2) (S 3)
noncomputable def ents (l : List Nat) (f : Nat → Value) : Array (Int × Value) := (l.map fun k : Nat => ((k : Int), f k)).toArray
noncomputable def tab (l : List Nat) (led : Bool) : SetTable := { mask := 7, place := l.toArray, dummies := #[], finger := 0, led := led, moves := 0, plain := true }
noncomputable def plus (S : Nat → Bool) (k : Nat) : Nat → Bool := fun j => S j || decide (j = k)
noncomputable def putF (f : Nat → Value) (k : Nat) (x : Value) : Nat → Value := fun j => if j = k then x else f j
theorem lay0 (b1 b2 b3 led : Bool) (f : Nat → Value) (x : Value) : layNew (tab (L false b1 b2 b3) led) (ents (L false b1 b2 b3) f) ((0 : Nat) : Int) x = (ents (L true b1 b2 b3) (putF f 0 x), tab (L true b1 b2 b3) led, false, false) := by cases b1 <;> cases b2 <;> cases b3 <;> kernel_rfl
theorem lay1 (b0 b2 b3 led : Bool) (f : Nat → Value) (x : Value) : layNew (tab (L b0 false b2 b3) led) (ents (L b0 false b2 b3) f) ((1 : Nat) : Int) x = (ents (L b0 true b2 b3) (putF f 1 x), tab (L b0 true b2 b3) led, false, false) := by cases b0 <;> cases b2 <;> cases b3 <;> kernel_rfl
theorem lay2 (b0 b1 b3 led : Bool) (f : Nat → Value) (x : Value) : layNew (tab (L b0 b1 false b3) led) (ents (L b0 b1 false b3) f) ((2 : Nat) : Int) x = (ents (L b0 b1 true b3) (putF f 2 x), tab (L b0 b1 true b3) led, false, false) := by cases b0 <;> cases b1 <;> cases b3 <;> kernel_rfl
theorem lay3 (b0 b1 b2 led : Bool) (f : Nat → Value) (x : Value) : layNew (tab (L b0 b1 b2 false) led) (ents (L b0 b1 b2 false) f) ((3 : Nat) : Int) x = (ents (L b0 b1 b2 true) (putF f 3 x), tab (L b0 b1 b2 true) led, false, false) := by cases b0 <;> cases b1 <;> cases b2 <;> kernel_rfl
theorem lay4 (S : Nat → Bool) (led : Bool) (f : Nat → Value) (x : Value) (k : Nat) (hk : k < 4) (hs : S k = false) : layNew (tab (mem4 S) led) (ents (mem4 S) f) (k : Int) x = (ents (mem4 (plus S k)) (putF f k x), tab (mem4 (plus S k)) led, false, false) := by
 unfold mem4 plus
 match k, hk with
 | 0, _ => rw [hs]; simpa using lay0 (S 1) (S 2) (S 3) led f x
 | 1, _ => rw [hs]; simpa using lay1 (S 0) (S 2) (S 3) led f x
 | 2, _ => rw [hs]; simpa using lay2 (S 0) (S 1) (S 3) led f x
 | 3, _ => rw [hs]; simpa using lay3 (S 0) (S 1) (S 2) led f x
theorem L_len (b0 b1 b2 b3 : Bool) : (L b0 b1 b2 b3).length ≤ 4 := by cases b0 <;> cases b1 <;> cases b2 <;> cases b3 <;> decide
theorem ents_size (l : List Nat) (f : Nat → Value) : (ents l f).size = l.length := by simp [ents]
theorem fits4 (S : Nat → Bool) (led : Bool) (f : Nat → Value) : (tab (mem4 S) led).fits (ents (mem4 S) f).size = true := by
 rw [ents_size]; unfold mem4
 cases S 0 <;> cases S 1 <;> cases S 2 <;> cases S 3 <;> kernel_rfl
theorem full4 (S : Nat → Bool) (led : Bool) : (tab (mem4 S) led).tooFull = false := by
 unfold mem4
 cases S 0 <;> cases S 1 <;> cases S 2 <;> cases S 3 <;> kernel_rfl
theorem mem_c {b : Bool} {i k : Nat} : k ∈ cond b [i] [] ↔ b = true ∧ k = i := by cases b <;> simp
theorem mem_mem4 {S : Nat → Bool} {k : Nat} : k ∈ mem4 S ↔ k < 4 ∧ S k = true := by
 unfold mem4 L
 rw [List.mem_append, List.mem_append, List.mem_append, mem_c, mem_c, mem_c, mem_c]
 constructor
 ·rintro (⟨h, rfl⟩ | ⟨h, rfl⟩ | ⟨h, rfl⟩ | ⟨h, rfl⟩) <;> exact ⟨by decide, h⟩
 ·rintro ⟨hk, hs⟩
  match k, hk with
  | 0, _ => exact .inl ⟨hs, rfl⟩
  | 1, _ => exact .inr (.inl ⟨hs, rfl⟩)
  | 2, _ => exact .inr (.inr (.inl ⟨hs, rfl⟩))
  | 3, _ => exact .inr (.inr (.inr ⟨hs, rfl⟩))
noncomputable def sObj (S : Nat → Bool) (f : Nat → Value) (led : Bool) (ep : Nat) : Obj := { cls := .type "set", dict := none, data := .set (ents (mem4 S) f) ep (tab (mem4 S) led) }
noncomputable def IsS4 (h : Heap) (a : Addr) (S : Nat → Bool) (led : Bool) : Prop := ∃ f ep, (∀ k, k < 4 → S k = true → ∃ t, f k = Value.int k t) ∧ h.get? a = some (sObj S f led ep)
theorem hash4 (k : Nat) (hk : k < 4) : hashInt (k : Int) = (k : Int) := by
 match k, hk with
 | 0, _ => rfl
 | 1, _ => rfl
 | 2, _ => rfl
 | 3, _ => rfl
section
variable {prog : Program} {w : World} {A : Around} {E : Value → Shared → Prop} {s : Shared}
theorem elems4 {S : Nat → Bool} {f : Nat → Value} (hf : ∀ k, k < 4 → S k = true → ∃ t, f k = Value.int k t) : ElemsOf (intKind prog w) (ents (mem4 S) f).toList := by
 intro e he
 have he' : e ∈ (mem4 S).map fun k : Nat => ((k : Int), f k) := by simpa [ents] using he
 obtain ⟨k, hk, rfl⟩ := List.mem_map.mp he'
 obtain ⟨h1, h2⟩ := mem_mem4.mp hk
 obtain ⟨t, ht⟩ := hf k h1 h2
 refine ⟨⟨(k : Int), ?_, ?_⟩, ?_⟩
 ·show (intKind prog w).is (k : Int) (f k) = true
  rw [ht]; exact intKind_is _ _ _ _
 ·exact (hash4 k h1).symm
 ·show (f k).scannable = true
  rw [ht]; rfl
theorem add4 {a : Addr} {S : Nat → Bool} {led : Bool} {k : Nat} {t : Tok} {Q : Bool → Shared → Prop} (hS : IsS4 s.heap a S led) (hk : k < 4) (h : ∀ b h', Heap.SameBut a s.heap h' → IsS4 h' a (plus S k) led → Q b { s with heap := h' }) :
  wpAny (model prog w) A (setAddHashed a (.int (k : Int) t) (hashInt (k : Int))) Q E s := by
 obtain ⟨f, ep, hf, ho⟩ := hS
 have hel : ElemsOf (intKind prog w) (ents (mem4 S) f).toList := elems4 hf
 have hfit := fits4 S led f
 have hz : (ents (mem4 S) f).size < scanBound := by
  rw [ents_size]; have := L_len (S 0) (S 1) (S 2) (S 3)
  show (L (S 0) (S 1) (S 2) (S 3)).length < 4096; omega
 have hd : (sObj S f led ep).data = .set (ents (mem4 S) f) ep (tab (mem4 S) led) := rfl
 have hkey : (intKind prog w).is (k : Int) (Value.int (k : Int) t) = true := intKind_is _ _ _ _
 unfold setAddHashed setAddHashedIn
 refine wpAny_holding (wpAny_bind (wpAny_setState_of ho hd hfit ?_)); dsimp only
 rw [byScan_of (knd := intKind prog w) rfl hz hel]; simp only [↓reduceIte]; unfold setAddByScan
 refine wpAny_bind (wpAny_bind (wpAny_rule (wpAny_bind (wpAny_setScan_of (knd := intKind prog w) hkey ho hd hfit hel ?_))))
 cases hSk : S k with
 | true =>
  have : ∃ j, List.findIdx? (fun e => (intKind prog w).is (k : Int) e.2) (ents (mem4 S) f).toList = some j := by
   cases hr : List.findIdx? (fun e => (intKind prog w).is (k : Int) e.2) (ents (mem4 S) f).toList with
   | some j => exact ⟨j, rfl⟩
   | none =>
    obtain ⟨t', ht'⟩ := hf k hk hSk
    have hm : ((k : Int), f k) ∈ (ents (mem4 S) f).toList := by
     have : ((k : Int), f k) ∈ (mem4 S).map fun k : Nat => ((k : Int), f k) := List.mem_map.mpr ⟨k, mem_mem4.mpr ⟨hk, hSk⟩, rfl⟩
     simpa [ents] using this
    have := List.findIdx?_eq_none_iff.mp hr _ hm
    rw [show (intKind prog w).is (k : Int) ((k : Int), f k).2 = true by show (intKind prog w).is (k : Int) (f k) = true; rw [ht']; exact intKind_is _ _ _ _] at this
    cases this
  obtain ⟨j, hj⟩ := this
  rw [hj]
  dsimp only
  refine wpAny_pure (wpAny_pure ?_)
  have eS : plus S k = S := funext fun i => by
   unfold plus
   by_cases e : i = k
   ·subst e; simp [hSk]
   ·simp [e]
  exact h _ s.heap (Heap.SameBut.refl a s.heap) (by rw [eS]; exact ⟨f, ep, hf, ho⟩)
 | false =>
  have hr : List.findIdx? (fun e => (intKind prog w).is (k : Int) e.2) (ents (mem4 S) f).toList = none := by
   rw [List.findIdx?_eq_none_iff]
   intro e he
   have he' : e ∈ (mem4 S).map fun k : Nat => ((k : Int), f k) := by simpa [ents] using he
   obtain ⟨i, hi, rfl⟩ := List.mem_map.mp he'
   obtain ⟨h1, h2⟩ := mem_mem4.mp hi
   obtain ⟨t', ht'⟩ := hf i h1 h2
   cases z : (intKind prog w).is (k : Int) (((i : Int), f i).2) with
   | false => rfl
   | true =>
    have z' : (intKind prog w).is (k : Int) (Value.int (i : Int) t') = true := by rw [← ht']; exact z
    have := (intKind prog w).inj _ _ _ z' (intKind_is _ _ _ _)
    have e : k = i := by omega
    subst e
    rw [hSk] at h2; cases h2
  rw [hr]
  dsimp only
  rw [hash4 k hk, lay4 S led f _ k hk hSk]
  dsimp only
  refine wpAny_bind (wpAny_pure ?_)
  have hS2 : ∀ ep', ∀ h', h'.get? a = some (sObj (plus S k) (putF f k (.int (k : Int) t)) led ep') → IsS4 h' a (plus S k) led := fun ep' h' g => ⟨_, ep', fun i hi hp => by
   unfold putF
   by_cases e : i = k
   ·rw [if_pos e, e]; exact ⟨t, rfl⟩
   ·rw [if_neg e]
    unfold plus at hp
    exact hf i hi (by simpa [e] using hp), g⟩
  rw [show (tab (mem4 (plus S k)) led).plain = true from rfl]
  simp only [↓reduceIte]
  rw [hashByValue_scannable 8 (x := Value.int (k : Int) t) rfl]
  refine wpAny_bind (wpAny_pure ?_)
  rw [show plainKind (Value.int (k : Int) t) = true from rfl]
  simp only [↓reduceIte]
  have hz2 : (ents (mem4 (plus S k)) (putF f k (.int (k : Int) t))).size ≤ sizeLine := by
   rw [ents_size, sizeLine_eq]; have := L_len (plus S k 0) (plus S k 1) (plus S k 2) (plus S k 3)
   show (L (plus S k 0) (plus S k 1) (plus S k 2) (plus S k 3)).length ≤ _; omega
  refine wpAny_bind (wpAny_storeSet_of ho hd ?_ hz2)
  rw [full4]
  simp only [Bool.and_false, Bool.false_eq_true, ↓reduceIte]
  refine wpAny_pure (wpAny_pure ?_)
  have hg : (s.heap.update a (Obj.putSet (ents (mem4 (plus S k)) (putF f k (.int (k : Int) t))) (tab (mem4 (plus S k)) led))).get? a = some (sObj (plus S k) (putF f k (.int (k : Int) t)) led (ep + 1)) := by
   have := Heap.get?_update_self (Obj.putSet (ents (mem4 (plus S k)) (putF f k (.int (k : Int) t))) (tab (mem4 (plus S k)) led)) ho (by rw [putSet_of _ _ hd]; rfl)
   rw [putSet_of _ _ hd] at this; exact this
  exact h _ _ (Heap.SameBut.update s.heap a _) (hS2 _ _ hg)
end
end Set4
namespace Set4
open PySem PyProof.Rows
noncomputable def acc (val : Nat → Nat) : Nat → Nat → Bool
 | 0 => fun _ => false
 | i + 1 => plus (acc val i) (val i)
theorem acc_iff (val : Nat → Nat) (k : Nat) : ∀ i, acc val i k = true ↔ ∃ j, j < i ∧ val j = k
 | 0 => by simp [acc]
 | i + 1 => by
  show plus (acc val i) (val i) k = true ↔ _
  unfold plus
  rw [Bool.or_eq_true, acc_iff val k i, decide_eq_true_eq]
  constructor
  ·rintro (⟨j, h1, h2⟩ | h)
   ·exact ⟨j, by omega, h2⟩
   ·exact ⟨i, by omega, h.symm⟩
  ·rintro ⟨j, h1, h2⟩
   by_cases e : j = i
   ·right; rw [← h2, e]
   ·exact .inl ⟨j, by omega, h2⟩
theorem IsS4.at {h h' : Heap} {a : Addr} {S : Nat → Bool} {led : Bool} (x : IsS4 h a S led) (e : ∀ o, h.get? a = some o → h'.get? a = some o) : IsS4 h' a S led := let ⟨f, ep, hf, ho⟩ := x; ⟨f, ep, hf, e _ ho⟩
section
variable {prog : Program} {w : World} {A : Around} {R : Result → Shared → Prop} {I : Addr} {fp wr : List Addr} {G : Array GenState → Array GenState → Prop} {n : Nat} {P : Nat → Value → Prop} {St : Nat → Shared → Prop} {led : Bool}
theorem loop4 (W : WalksS prog w A.in1 I fp wr G n P St) (D : Addr) (hD : D ∉ fp) (val : Nat → Nat) (hv : ∀ i v, P i v → ∃ t, v = .int (val i : Int) t) (h4 : ∀ i, i < n → val i < 4) : ∀ (k i : Nat) (s : Shared), n - i = k → i ≤ n → St i s → IsS4 s.heap D (acc val i) led →
  (∀ s', Moved (D :: wr) G s s' → IsS4 s'.heap D (acc val n) led → R (.ok (.ret .none)) s') → codeAny (model prog w) A (.builtin "set.update.loop" ⟨[.ref D, .ref I], []⟩) R s := by
 have nw : D ∉ wr := fun h => hD (W.sub _ h)
 have sub : ∀ b ∈ wr, b ∈ D :: wr := fun b hb => List.mem_cons_of_mem _ hb
 intro k
 induction k with
 | zero =>
  intro i s hk hi st hS hR
  obtain rfl : i = n := by omega
  refine codeAny_builtin F.entry_set_update_loop ?_; rw [Around.under_plainId F.plain_set_update_loop _]
  show wpAny _ A.in1 (pyNext (.ref I) >>= _) _ _ s; refine wpAny_bind (W.done s _ _ st fun s' hm => ?_)
  show wpAny _ A.in1 (ret Value.none) _ _ s'
  exact wpAny_pure (hR s' (hm.mono sub) (hS.at fun o e => hm.heap D _ nw e))
 | succ k ih =>
  intro i s hk hi st hS hR
  have hlt : i < n := by omega
  refine codeAny_builtin F.entry_set_update_loop ?_; rw [Around.under_plainId F.plain_set_update_loop _]
  show wpAny _ A.in1 (pyNext (.ref I) >>= _) _ _ s; refine wpAny_bind (W.item i s _ _ hlt st fun v s' hP st' hm => ?_)
  obtain ⟨t, rfl⟩ := hv i v hP
  show wpAny _ A.in1 (holding [Value.int (val i : Int) t] (setAdd D (.int (val i : Int) t)) >>= _) _ _ s'
  refine wpAny_bind (wpAny_holding ?_); unfold setAdd; refine wpAny_holding ?_
  refine wpAny_bind ((intKind prog w).pyHash (k := (val i : Int)) (intKind_is _ _ _ _) ?_)
  refine add4 (s := { s' with toks := s'.toks + 1 }) (hS.at fun o e => hm.heap D _ nw e) (h4 i hlt) fun b h' hsb hS2 => ?_
  refine wpAny_pure ⟨plainId_quiet F.plain_set_update_loop _, ih (i + 1) _ (by omega) hlt (W.frame _ s' _ _ st' (Nat.le_succ _) fun b hb o e => ?_) hS2 fun s'' hm'' hS'' => ?_⟩
  ·rw [hsb.2 b (fun h : b = D => hD (by rw [← h]; exact hb))]; exact e
  ·refine hR s'' (Moved.trans W.gtrans ((hm.mono sub).then_heap (Nat.le_succ _) fun b o hb e => ?_) hm'') hS''
   rw [hsb.2 b (fun h : b = D => hb (by rw [h]; exact List.mem_cons_self))]; exact e
end
section
variable {prog : Program} {w : World} {A : Around} {E : Value → Shared → Prop} {s : Shared}
noncomputable def byT (w : World) : Bool := w.params.followText "set-order"
theorem new4 (a : Value) {Q₁ : Value → Shared → Prop} (h : Q₁ (.ref s.heap.objs.size) { s with heap := s.heap.push (sObj (fun _ => false) (fun _ => .none) (!byT w) 0) }) :
  codeAny (model prog w) A (.call (.builtin "set.__new__") ⟨[.type "set", a], []⟩) (wants Q₁ E) s := by
 refine codeAny_of_tree ?_
 show wpAny _ A.in1 (do checkBuiltinCall "set.__new__" ⟨[.type "set", a], []⟩; again (.builtin "set.__new__" ⟨[.type "set", a], []⟩)) _ _ s
 refine wpAny_bind (wpAny_of_eq (PySem.F.newCall_set_1 a) (wpAny_pure ⟨plainId_quiet PySem.F.plain_set_new _, codeAny_builtin PySem.F.entry_set_new ?_⟩))
 rw [Around.under_plainId PySem.F.plain_set_new _]; unfold Builtin.«set.__new__» Builtin.Frozenset.newClass
 have hsub := PySem.sub_set_self
 obtain ⟨hp, g, d, tk, os⟩ := s
 dsimp only; wp_walk
 refine wpAny_askSetting (wpAny_pure ?_); dsimp only; simp only [newObj]
 refine wpAny_bind (wpAny_alloc (wpAny_pure ?_)); exact wpAny_pure h
theorem set4_list {l : Addr} {items : Array Value} {val : Nat → Nat} {Q : Value → Shared → Prop} (hh : A.handled = none) (hl : s.heap.IsList l items) (hv : ∀ (i : Nat) (v : Value), items[i]? = some v → ∃ t, v = .int (val i : Int) t) (h4 : ∀ i, i < items.size → val i < 4)
  (h : ∀ (h' : Heap) (tk : Nat), IsS4 h' s.heap.objs.size (acc val items.size) (!byT w) → (∀ b o, b < s.heap.objs.size → s.heap.get? b = some o → h'.get? b = some o) → Q (.ref s.heap.objs.size) { s with heap := h', toks := tk }) :
  wpAny (model prog w) A (call (.type "set") [.ref l]) Q E s := by
 obtain ⟨c, tl, hmro⟩ := PySem.F.called_set.mro
 have hmade := PySem.F.called_set.made
 have hsub := PySem.F.called_set.sub
 refine wpAny_call (codeAny_of_tree ?_)
 show wpAny _ _ (callAny (.type "set") _) _ _ _
 refine wpAny_pure ⟨Code.quiet_builtin _ (by decide +kernel), codeAny_builtin PySem.F.entry_type_call ?_⟩
 rw [Around.under_plain (weight_type_call_type "set" [.ref l] []) rfl]
 have h1 := PySem.F.called_set.notType
 have h2 := PySem.F.called_set.canCreate
 have hct := PySem.F.typeCall_set_1 (.ref l)
 repeat (any_goals (first | assumption | wp_step))
 refine codeAny_mono (new4 (.ref l) (E := E) (Q₁ := fun obj s₁ => obj = .ref s.heap.objs.size ∧ s₁ = { s with heap := s.heap.push (sObj (fun _ => false) (fun _ => .none) (!byT w) 0) }) ⟨rfl, rfl⟩) fun r s₁ hr => ?_
 cases r with
 | error e => exact hr
 | ok fl =>
  cases fl with
  | ret obj =>
   obtain ⟨rfl, rfl⟩ := hr
   have hS : (s.heap.push (sObj (fun _ => false) (fun _ => .none) (!byT w) 0)).get? s.heap.objs.size = some (sObj (fun _ => false) (fun _ => .none) (!byT w) 0) := Heap.get?_push_size _ rfl
   have hT : Shared.TypeIs { s with heap := s.heap.push (sObj (fun _ => false) (fun _ => .none) (!byT w) 0) } (.ref s.heap.objs.size) "set" := ⟨_, hS, rfl⟩
   have hli := PySem.F.called_set.init.lookup
   have hbi := PySem.F.called_set.init.bind (.ref s.heap.objs.size)
   repeat (any_goals (first | assumption | wp_step))
   refine codeAny_mono (codeAny_call_builtin (R := wants (fun r s₂ => r = .none ∧ ∃ h' tk, s₂ = { s with heap := h', toks := tk } ∧ IsS4 h' s.heap.objs.size (acc val items.size) (!byT w) ∧
     (∀ b o, b < s.heap.objs.size → s.heap.get? b = some o → h'.get? b = some o)) E) PySem.F.called_set.init.plain PySem.F.entry_set_init (check_set_init_1 hT ?_)) fun r₂ s₂ hr₂ => ?_
   ·obtain ⟨ol, hol, hcl, nl, hdl⟩ := hl
    obtain ⟨ocls, odict, odata, oslots⟩ := ol
    simp only at hcl hdl
    subst hcl; subst hdl
    have hol' : (s.heap.push (sObj (fun _ => false) (fun _ => .none) (!byT w) 0)).get? l = some { cls := .type "list", dict := odict, data := .seq items nl, slots := oslots } := Heap.get?_push_of_some _ hol
    have hsls := PySem.F.sub_list_set
    have hslf := PySem.F.sub_list_frozenset
    have hne : (Value.type "list" == Value.type "dict") = false := by decide
    have hl1 : (s.heap.push (sObj (fun _ => false) (fun _ => .none) (!byT w) 0)).IsList l items := ⟨_, hol', rfl, nl, rfl⟩
    unfold Builtin.«set.__init__» noKeywords Builtin.Frozenset.updateFrom
    generalize hPI : pyIter = PI
    wp_walk
    subst hPI
    refine wpAny_pyIter_list hl1 ?_; refine wpAny_bind (wpAny_runValue ?_)
    have hlS : l < s.heap.objs.size := Heap.lt_size hol
    have hh3 : A.in1.in1.in1.handled = none := by simp [hh]
    have hneI : l ≠ (s.heap.push (sObj (fun _ => false) (fun _ => .none) (!byT w) 0)).objs.size := by rw [Heap.size_push]; exact Nat.ne_of_lt (Nat.lt_succ_of_lt hlS)
    have hSf : s.heap.objs.size ∉ [(s.heap.push (sObj (fun _ => false) (fun _ => .none) (!byT w) 0)).objs.size, l] := by
     rw [Heap.size_push]; intro hm
     rcases List.mem_cons.mp hm with e | e
     ·exact absurd e (Nat.ne_of_lt (Nat.lt_succ_self _))
     ·exact absurd (List.mem_singleton.mp e) (Nat.ne_of_gt hlS)
    refine loop4 ((Walks.list hh3 _ l hneI items).toS) s.heap.objs.size hSf val hv h4 (items.size - 0) 0 _ (by omega) (Nat.zero_le _) ⟨⟨_, Heap.get?_push_size _ rfl, rfl, rfl⟩, (hl1.push _)⟩ (show IsS4 _ _ (fun _ => false) (!byT w) from ⟨fun _ => .none, 0, (fun k _ z => absurd z (by simp)), Heap.get?_push_of_some _ hS⟩) ?_
    intro s' hm hS'
    obtain ⟨h', g', d', tk', os'⟩ := s'
    have eg : g' = s.gens := hm.gens
    have ed : d' = s.drawn := hm.drawn
    have eo : os' = s.os := hm.os
    subst eg; subst ed; subst eo
    show wpAny _ _ _ _ _ _; refine wpAny_pure ?_; show wpAny _ _ (ret Value.none) _ _ _
    refine wpAny_pure ⟨rfl, h', tk', rfl, hS', fun b o hb e => ?_⟩
    refine hm.heap b o (fun hmm => ?_) (Heap.get?_push_of_some _ (Heap.get?_push_of_some _ e))
    rcases List.mem_cons.mp hmm with z | z
    ·exact Nat.ne_of_lt hb z
    ·rw [Heap.size_push] at z
     exact Nat.ne_of_lt (Nat.lt_succ_of_lt hb) (List.mem_singleton.mp z)
   ·cases r₂ with
    | error e => exact hr₂
    | ok fl₂ =>
     cases fl₂ with
     | ret r =>
      obtain ⟨rfl, h', tk, rfl, hS', hk'⟩ := hr₂
      repeat (any_goals (first | assumption | wp_step))
      exact h _ _ hS' hk'
     | _ => exact hr₂.elim
  | _ => exact hr.elim
end
end Set4
namespace Set4
open PySem PyProof.Rows
theorem erase_perm {α : Type} : ∀ (l : List α) (i : Nat) (h : i < l.length), (l[i] :: l.eraseIdx i).Perm l
 | [], i, h => by simp at h
 | x :: l, 0, h => List.Perm.refl _
 | x :: l, i + 1, h => by
  have ih := erase_perm l i (by simpa using h)
  show (l[i]'(by simpa using h) :: x :: l.eraseIdx i).Perm (x :: l)
  exact (List.Perm.swap _ _ _).trans (ih.cons x)
theorem pick_go {α : Type} (next : Nat → Nat) : ∀ (fuel k : Nat) (left : List α) (out : Array α), left.length = fuel → (pickOrder.go next fuel k left out).toList.Perm (out.toList ++ left)
 | 0, k, left, out, h => by
  cases left with
  | nil => unfold pickOrder.go; simp
  | cons _ _ => simp at h
 | fuel + 1, k, left, out, h => by
  have hl : next k % left.length < left.length := Nat.mod_lt _ (by omega)
  unfold pickOrder.go
  rw [List.getElem?_eq_getElem hl]
  have ih := pick_go next fuel (k + 1) (left.eraseIdx (next k % left.length)) (out.push left[next k % left.length]) (by rw [List.length_eraseIdx_of_lt hl]; omega)
  refine ih.trans ?_
  rw [Array.toList_push, List.append_assoc]
  exact List.Perm.append_left _ (erase_perm _ _ hl)
theorem pick_perm {α : Type} (next : Nat → Nat) (xs : Array α) : (pickOrder next xs).toList.Perm xs.toList := by
 have := pick_go next xs.size 0 xs.toList #[] (by simp)
 unfold pickOrder
 simpa using this
noncomputable def slot (S : Nat → Bool) (i : Nat) : Nat := if i = 0 then 0 else (mem4 S).getD (i - 1) 0 + 1
theorem below4 (S : Nat → Bool) (i : Nat) (hi : i ≤ (mem4 S).length) : SetTable.below (mem4 S).toArray (slot S i) = i := by
 have key : ∀ b0 b1 b2 b3 : Bool, ∀ i, i < 5 → i ≤ (L b0 b1 b2 b3).length → SetTable.below (L b0 b1 b2 b3).toArray (if i = 0 then 0 else (L b0 b1 b2 b3).getD (i - 1) 0 + 1) = i := by decide +kernel
 have := L_len (S 0) (S 1) (S 2) (S 3)
 exact key (S 0) (S 1) (S 2) (S 3) i (by unfold mem4 at hi; omega) hi
noncomputable def ord (w : World) (a : Addr) (S : Nat → Bool) (f : Nat → Value) (ep : Nat) : List Value := ((if byT w = true then pickOrder (w.params.setOrder a ep) (ents (mem4 S) f) else ents (mem4 S) f).toList).map (·.2)
theorem ord_perm (w : World) (a : Addr) (S : Nat → Bool) (f : Nat → Value) (ep : Nat) : (ord w a S f ep).Perm ((mem4 S).map f) := by
 have e : (ents (mem4 S) f).toList.map (·.2) = (mem4 S).map f := by simp [ents, Function.comp_def]
 unfold ord
 by_cases h : byT w = true
 ·rw [if_pos h, ← e]
  exact (pick_perm _ _).map _
 ·rw [if_neg h, e]
noncomputable def nslot (w : World) (S : Nat → Bool) (i : Nat) : Nat := if byT w = true then 0 else slot S i
section
variable {prog : Program} {w : World} {A : Around} {E : Value → Shared → Prop} {s : Shared}
theorem next4 {a : Addr} {S : Nat → Bool} {f : Nat → Value} {ep i : Nat} {Q : Option (Value × Nat) → Shared → Prop} (ho : s.heap.get? a = some (sObj S f (!byT w) ep)) (hi : i ≤ (mem4 S).length) (h : Q (((ord w a S f ep)[i]?).map fun v => (v, nslot w S (i + 1))) s) :
  wpAny (model prog w) A (setNext a (nslot w S i) i ep) Q E s := by
 have hd : (sObj S f (!byT w) ep).data = .set (ents (mem4 S) f) ep (tab (mem4 S) (!byT w)) := rfl
 have hf := fits4 S (!byT w) f
 unfold setNext setsByText
 refine wpAny_bind (wpAny_setState_of ho hd hf ?_); dsimp only
 refine wpAny_bind (wpAny_bind (wpAny_askSetting (wpAny_pure ?_)))
 show wpAny _ _ (if byT w = true then _ else _) _ _ _
 unfold ord nslot at h
 unfold nslot
 by_cases hb : byT w = true
 ·rw [if_pos hb] at h ⊢
  rw [if_pos hb] at h
  rw [if_pos hb]
  rw [if_neg (by simp)]
  refine wpAny_bind ?_
  unfold setWalk setsByText
  refine wpAny_bind ( (wpAny_setState_of ho hd hf ?_)); dsimp only
  refine wpAny_bind (wpAny_bind (wpAny_askSetting (wpAny_pure ?_)))
  show wpAny _ _ (if byT w = true then _ else _) _ _ _
  rw [if_pos hb]
  refine wpAny_bind (wpAny_askSetting (wpAny_pure ?_))
  refine wpAny_pure ?_
  rw [List.getElem?_map, Array.getElem?_toList, Option.map_map] at h
  exact h
 ·rw [if_neg hb] at h ⊢
  rw [if_neg hb] at h
  rw [if_neg hb]
  have hb' : byT w = false := by simpa using hb
  show wpAny _ _ (if (!true && decide ((ents (mem4 S) f).size > 1)) = true then _ else _) _ _ _
  rw [if_neg (by simp)]
  show wpAny _ _ ((if (!(!byT w) && !(ents (mem4 S) f).isEmpty) = true then unsupported "set:maker-not-led" else pure ()) >>= _) _ _ _
  rw [hb', if_neg (by simp)]
  refine wpAny_bind (wpAny_pure (wpAny_pure ?_))
  show Q (match (ents (mem4 S) f)[SetTable.below (mem4 S).toArray (slot S i)]?, (mem4 S).toArray[SetTable.below (mem4 S).toArray (slot S i)]? with | some (_, x), some j => some (x, j + 1) | _, _ => none) s
  rw [below4 S i hi]
  rw [List.getElem?_map, Array.getElem?_toList] at h
  by_cases hl : i < (mem4 S).length
  ·have e1 : (ents (mem4 S) f)[i]? = some (((mem4 S)[i] : Int), f (mem4 S)[i]) := by simp [ents, hl]
   have e2 : (mem4 S).toArray[i]? = some (mem4 S)[i] := by simp [hl]
   rw [e1] at h ⊢
   rw [e2]
   have e3 : slot S (i + 1) = (mem4 S)[i] + 1 := by unfold slot; rw [if_neg (by omega)]; simp [hl]
   rw [e3] at h
   exact h
  ·have e1 : (ents (mem4 S) f)[i]? = none := by simp [ents]; omega
   rw [e1] at h ⊢
   exact h
end
end Set4
namespace Set4
open PySem PyProof.Rows
noncomputable abbrev IsSetIt (h : Heap) (I a : Addr) (sl i n ep : Nat) : Prop := h.get? I = some { cls := .type "set_iterator", dict := none, data := .fields #[.int sl 0, .int i 0, .ref a, .int n 0, .int ep 0], slots := #[] }
theorem slot_next : Slot "set_iterator" "__next__" "set_iterator.__next__" := .of (owner := "set_iterator") (n := "__next__") (by rw [typeLookup_type, builtinLookup_eq_fast]; kernel_rfl) (by decide +kernel) (by decide +kernel) (by decide +kernel) (by first | exact .inl (by decide +kernel) | exact .inr (by decide +kernel)) (by rw [isSubtype_type]; kernel_rfl)
theorem slot_self : Slot "set_iterator" "__iter__" "set_iterator.__iter__" := .of (owner := "set_iterator") (n := "__iter__") (by rw [typeLookup_type, builtinLookup_eq_fast]; kernel_rfl) (by decide +kernel) (by decide +kernel) (by decide +kernel) (by first | exact .inl (by decide +kernel) | exact .inr (by decide +kernel)) (by rw [isSubtype_type]; kernel_rfl)
theorem entry_next : entryFor table "set_iterator.__next__" = some Builtin.«set_iterator.__next__» := entryFor_of_tree (by kernel_rfl)
theorem entry_self : entryFor table "set_iterator.__iter__" = some Builtin.«dict_keyiterator.__iter__» := entryFor_alias (id' := "dict_keyiterator.__iter__") (by kernel_rfl) rfl (by decide +kernel) (by kernel_rfl)
theorem entry_iter : entryFor table "set.__iter__" = some Builtin.«frozenset.__iter__» := entryFor_alias (id' := "frozenset.__iter__") (by kernel_rfl) rfl (by decide +kernel) (by kernel_rfl)
theorem args_next (a : Value) : argsOk "set_iterator.__next__" ⟨[a], []⟩ := by unfold argsOk; kernel_rfl
theorem args_self (a : Value) : argsOk "set_iterator.__iter__" ⟨[a], []⟩ := by unfold argsOk; kernel_rfl
theorem ord_len (w : World) (a : Addr) (S : Nat → Bool) (f : Nat → Value) (ep : Nat) : (ord w a S f ep).length = (mem4 S).length := by rw [(ord_perm w a S f ep).length_eq, List.length_map]
section
variable {prog : Program} {w : World} {A : Around} {E : Value → Shared → Prop} {s : Shared}
theorem setIter4 {a : Addr} {S : Nat → Bool} {f : Nat → Value} {ep : Nat} {Q : Value → Shared → Prop} (ho : s.heap.get? a = some (sObj S f (!byT w) ep))
  (h : Q (.ref s.heap.objs.size) { s with heap := s.heap.push { cls := .type "set_iterator", data := .fields #[.int 0 0, .int 0 0, .ref a, .int (mem4 S).length 0, .int ep 0] } }) : wpAny (model prog w) A (pyIter (.ref a)) Q E s := by
 have hd : (sObj S f (!byT w) ep).data = .set (ents (mem4 S) f) ep (tab (mem4 S) (!byT w)) := rfl
 have hf := fits4 S (!byT w) f
 have hT : s.TypeIs (.ref a) "set" := ⟨_, ho, rfl⟩
 refine wpAny_pyIter_slot hT PySem.F.slot_set_iter (wpAny_call_entry PySem.F.slot_set_iter hT entry_iter ?_ (PySem.F.args_set_iter_1 _))
 unfold Builtin.«frozenset.__iter__»
 refine wpAny_bind (wpAny_pure ?_)
 unfold Builtin.Frozenset.sizeOf
 refine wpAny_bind (wpAny_bind (wpAny_setEntries_of ho hd hf (wpAny_pure ?_)))
 refine wpAny_bind ?_
 unfold setDrawn setsByText
 refine wpAny_bind (wpAny_setState_of ho hd hf ?_); dsimp only
 refine wpAny_bind (wpAny_bind (wpAny_askSetting (wpAny_pure ?_)))
 refine wpAny_pure ?_
 show wpAny _ _ (if (!byT w && (!true && decide ((ents (mem4 S) f).size > 1))) = true then _ else _) _ _ _
 rw [if_neg (by simp)]
 refine wpAny_bind (wpAny_pure ?_)
 unfold setEpoch
 refine wpAny_bind (wpAny_bind (wpAny_setState_of ho hd hf (wpAny_pure ?_)))
 unfold newFields
 refine wpAny_bind (wpAny_newObj_type (wpAny_pure ⟨_, rfl, "set_iterator", _, ⟨_, Heap.get?_push_size _ rfl, rfl⟩, slot_next.lookup, ?_⟩) (by simp [sizeOk, sizeLine_eq]))
 rw [ents_size]
 exact h
theorem walk4 (hh : A.handled = none) (I a : Addr) (hne : a ≠ I) (S : Nat → Bool) (f : Nat → Value) (ep : Nat) :
  Walks prog w A I [I, a] [I] (mem4 S).length (fun i v => (ord w a S f ep)[i]? = some v) (fun i h => IsSetIt h I a (nslot w S i) i (mem4 S).length ep ∧ h.get? a = some (sObj S f (!byT w) ep)) where
 sub := fun b hb => by simp at hb; simp [hb]
 frame := fun _ _ _ st hk => ⟨hk I (by simp) _ st.1, hk a (by simp) _ st.2⟩
 item := fun i s Q E hi st hQ => by
  obtain ⟨hit, ho⟩ := st
  have hd : (sObj S f (!byT w) ep).data = .set (ents (mem4 S) f) ep (tab (mem4 S) (!byT w)) := rfl
  have hf := fits4 S (!byT w) f
  have hT : s.TypeIs (.ref I) "set_iterator" := ⟨_, hit, rfl⟩
  have hlt : i < (ord w a S f ep).length := by rw [ord_len]; exact hi
  unfold pyNext
  refine wpAny_bind (wpAny_attempt (wpAny_callSpecial?_slot (name := Str.ofString "__next__") hT slot_next (wpAny_call_entry slot_next hT entry_next ?_ (args_next _))))
  unfold Builtin.«set_iterator.__next__»
  refine wpAny_bind (wpAny_pure ?_)
  refine wpAny_bind (wpAny_fieldsOf hit rfl ?_)
  refine wpAny_bind (wpAny_setEntries_of ho hd hf ?_)
  rw [if_neg (by rw [ents_size]; simp)]
  refine wpAny_bind (next4 (i := i) (ep := ep) ho (Nat.le_of_lt hi) ?_)
  rw [List.getElem?_eq_getElem hlt]
  refine wpAny_bind (wpAny_setField_rec hit (by simp) fun h1 g1 s1 => ?_)
  refine wpAny_bind (wpAny_setField_rec g1 (by simp) fun h2 g2 s2 => ?_)
  refine wpAny_pure ⟨_, rfl, wpAny_pure ?_⟩
  refine hQ _ h2 s.toks (List.getElem?_eq_getElem hlt) ⟨?_, ?_⟩ fun b o hb e => ?_
  ·have e : ((i + 1 : Nat) : Int) = (i : Int) + 1 := by omega
   unfold IsSetIt; rw [e]; simpa [rawInt] using g2
  ·exact (s2.2 a hne).trans ((s1.2 a hne).trans ho)
  ·have : b ≠ I := fun z => hb (by simp [z])
   exact (s2.2 b this).trans ((s1.2 b this).trans e)
 done := fun s Q E st hQ => by
  obtain ⟨hit, ho⟩ := st
  have hd : (sObj S f (!byT w) ep).data = .set (ents (mem4 S) f) ep (tab (mem4 S) (!byT w)) := rfl
  have hf := fits4 S (!byT w) f
  have hT : s.TypeIs (.ref I) "set_iterator" := ⟨_, hit, rfl⟩
  unfold pyNext
  refine wpAny_bind (wpAny_attempt (wpAny_callSpecial?_slot (name := Str.ofString "__next__") hT slot_next (wpAny_call_entry slot_next hT entry_next ?_ (args_next _))))
  unfold Builtin.«set_iterator.__next__»
  refine wpAny_bind (wpAny_pure ?_)
  refine wpAny_bind (wpAny_fieldsOf hit rfl ?_)
  refine wpAny_bind (wpAny_setEntries_of ho hd hf ?_)
  rw [if_neg (by rw [ents_size]; simp)]
  refine wpAny_bind (next4 (i := (mem4 S).length) (ep := ep) ho (Nat.le_refl _) ?_)
  rw [List.getElem?_eq_none (by rw [ord_len]; exact Nat.le_refl _)]
  refine wpAny_bind (wpAny_setField hit rfl (by simp) ?_)
  show wpAny _ _ (newExc (.type "StopIteration") [] >>= _) _ _ _; refine wpAny_bind ?_; simp only [newExc, newTuple]
  refine wpAny_bind (wpAny_newObj_type ?_ (by size_fits)); refine wpAny_bind (m := firstArgMember _ _) (wpAny_of_eq (a := Value.none) (by first | rfl | (simp only [firstArgMember]; rfl)) ?_)
  refine wpAny_newObj_type ?_ (by size_fits); simp only [raiseNew]; refine wpAny_bind (wpAny_handled ?_); rw [show A.in1.handled = none from hh]
  refine wpAny_bind (wpAny_pure (wpAny_throw ?_)); refine wpAny_bind (wpAny_isInstance (T := "StopIteration") (b := true) ⟨_, Heap.get?_push_size _ rfl, rfl⟩ isSubtype_stop ?_)
  have go : ∀ h' : Heap, Heap.ExtBut I s.heap h' → Q none { s with heap := h', toks := s.toks } := fun h' hx => hQ h' s.toks fun b o hb e => hx b o (fun z => hb (by simp [z])) e
  exact wpAny_pure (go _ (((Heap.SameBut.update ..).extBut.push _).push _))
 self := fun i s Q E st hQ => by
  have hT : s.TypeIs (.ref I) "set_iterator" := ⟨_, st.1, rfl⟩
  refine wpAny_pyIter_slot hT slot_self (wpAny_call_entry slot_self hT entry_self ?_ (args_self _))
  show wpAny _ _ (ret (.ref I)) _ _ s
  exact wpAny_pure ⟨_, rfl, "set_iterator", _, hT, slot_next.lookup, hQ⟩
end
end Set4
namespace Set4
open PySem PyProof.Rows
section
variable {prog : Program} {w : World} {A : Around} {E : Value → Shared → Prop} {s : Shared}
theorem hint4 {a : Addr} {Q : Bool → Shared → Prop} (hT : s.TypeIs (.ref a) "set") (h : Q false s) : wpAny (model prog w) A (Builtin.List.listLengthHint (.ref a)) Q E s := by
 unfold Builtin.List.listLengthHint
 refine wpAny_bind (wpAny_specialOf hT PySem.F.slot_set_len.lookup ?_)
 show wpAny _ _ (do if !(← isInstance (.ref a) (.type "set")) then unsupported _ else pure ()
                    let .ref _ ← typeOf (.ref a) | return false
                    _) _ _ _
 refine wpAny_bind (wpAny_isInstance hT sub_set_self ?_)
 simp only [Bool.not_true, Bool.false_eq_true, if_false]
 refine wpAny_bind (wpAny_typeOf hT ?_)
 exact wpAny_pure h
theorem collect4 {a : Addr} {S : Nat → Bool} {f : Nat → Value} {ep : Nat} {Q : List Value → Shared → Prop} (hh : A.handled = none) (ho : s.heap.get? a = some (sObj S f (!byT w) ep))
  (h : ∀ h1 tk, (∀ b o, s.heap.get? b = some o → h1.get? b = some o) → s.heap.objs.size ≤ h1.objs.size → Q (ord w a S f ep) { s with heap := h1, toks := tk }) : wpAny (model prog w) A (collect (.ref a)) Q E s := by
 have la : a < s.heap.objs.size := Heap.lt_size ho
 unfold collect
 refine wpAny_bind (wpAny_runValue (codeAny_builtin PySem.F.entry_proto_collect ?_))
 rw [Around.under_plainId PySem.F.plain_proto_collect _]
 show wpAny _ A.in1 (newList [] >>= fun l => again (.builtin "list.__iadd__" ⟨[l, .ref a], []⟩)) _ _ s
 refine wpAny_bind (wpAny_newObj_type (wpAny_pure ⟨plainId_quiet PySem.F.plain_list_iadd _, codeAny_builtin PySem.F.entry_list_iadd ?_⟩))
 rw [Around.under_plainId PySem.F.plain_list_iadd _]
 generalize hg1 : s.heap.push { cls := .type "list", data := .seq ([] : List Value).toArray } = g1
 have k1 : ∀ b o, s.heap.get? b = some o → g1.get? b = some o := fun b o e => by rw [← hg1]; exact Heap.get?_push_of_some _ e
 have l1 : g1.get? s.heap.objs.size = some { cls := .type "list", data := .seq #[] } := by rw [← hg1]; exact Heap.get?_push_size _ rfl
 have z1 : g1.objs.size = s.heap.objs.size + 1 := by rw [← hg1, Heap.size_push]
 have o1 := k1 _ _ ho
 have hT1 : Shared.TypeIs { s with heap := g1 } (.ref a) "set" := ⟨_, o1, rfl⟩
 have neA : s.heap.objs.size ≠ a := Nat.ne_of_gt la
 show wpAny _ A.in1 (Builtin.List.listExtendWith (.ref s.heap.objs.size) (.ref a) (.ref s.heap.objs.size)) _ _ { s with heap := g1 }
 unfold Builtin.List.listExtendWith
 refine wpAny_bind (wpAny_typeOf hT1 ?_)
 have e1 : Builtin.List.listSameRef (.ref s.heap.objs.size) (.ref a) = false := by simp [Builtin.List.listSameRef, neA]
 have e2 : (Value.type "set" == Value.type "list") = false := by decide
 have e3 : (Value.type "set" == Value.type "tuple") = false := by decide
 simp only [e1, e2, e3, Bool.or_false, Bool.false_eq_true, if_false]
 refine wpAny_bind (setIter4 (s := { s with heap := g1 }) o1 ?_)
 generalize hg2 : g1.push { cls := .type "set_iterator", data := .fields #[.int 0 0, .int 0 0, .ref a, .int (mem4 S).length 0, .int ep 0] } = g2
 have k2 : ∀ b o, g1.get? b = some o → g2.get? b = some o := fun b o e => by rw [← hg2]; exact Heap.get?_push_of_some _ e
 have i2 : IsSetIt g2 g1.objs.size a 0 0 (mem4 S).length ep := by rw [← hg2]; exact Heap.get?_push_size _ rfl
 have z2 : g2.objs.size = g1.objs.size + 1 := by rw [← hg2, Heap.size_push]
 have o2 := k2 _ _ o1
 refine wpAny_bind (wpAny_holding (hint4 (s := { s with heap := g2 }) ⟨_, o2, rfl⟩ ?_))
 show wpAny _ A.in1 (rule "list.extend.makes-room" >>= fun _ => Builtin.List.listTouch (.ref s.heap.objs.size) >>= fun _ => again (.builtin "list.extend.loop" ⟨[.ref s.heap.objs.size, .ref g1.objs.size, .ref s.heap.objs.size], []⟩)) _ _ { s with heap := g2 }
 refine wpAny_bind (wpAny_rule ?_)
 have l2 := k2 _ _ l1
 refine wpAny_bind ?_
 show wpAny _ A.in1 (updateSeq s.heap.objs.size (·.push .none) >>= fun _ => updateSeq s.heap.objs.size (·.pop)) _ _ { s with heap := g2 }
 refine wpAny_bind (wpAny_updateSeq l2 rfl ?_)
 have l3 := Heap.get?_update_self (Obj.mapSeq (·.push Value.none)) l2 rfl
 refine wpAny_updateSeq l3 rfl ?_
 have l4 := Heap.get?_update_self (Obj.mapSeq (·.pop)) l3 rfl
 have k4 : ∀ b o, b ≠ s.heap.objs.size → g2.get? b = some o → ((g2.update s.heap.objs.size (Obj.mapSeq (·.push Value.none))).update s.heap.objs.size (Obj.mapSeq (·.pop))).get? b = some o :=
  fun b o hb e => (Heap.get?_update_other _ _ (Ne.symm hb)).trans ((Heap.get?_update_other _ _ (Ne.symm hb)).trans e)
 have z4 : ((g2.update s.heap.objs.size (Obj.mapSeq (·.push Value.none))).update s.heap.objs.size (Obj.mapSeq (·.pop))).objs.size = s.heap.objs.size + 2 := by rw [Heap.size_update, Heap.size_update, z2, z1]
 generalize (g2.update s.heap.objs.size (Obj.mapSeq (·.push Value.none))).update s.heap.objs.size (Obj.mapSeq (·.pop)) = g4 at l4 k4 z4
 have neI : a ≠ g1.objs.size := by rw [z1]; exact Nat.ne_of_lt (Nat.lt_succ_of_lt la)
 have neS : s.heap.objs.size ∉ [g1.objs.size, a] := by
  rw [z1]; intro hm
  rcases List.mem_cons.mp hm with e | e
  ·exact absurd e (Nat.ne_of_lt (Nat.lt_succ_self _))
  ·exact neA (List.mem_singleton.mp e)
 have hh2 : A.in1.handled = none := by simp [hh]
 have i4 : IsSetIt g4 g1.objs.size a (nslot w S 0) 0 (mem4 S).length ep := by
  have := k4 _ _ (by rw [z1]; exact Nat.ne_of_gt (Nat.lt_succ_self _)) i2
  have e : nslot w S 0 = 0 := by unfold nslot slot; split <;> rfl
  rw [e]; exact this
 refine wpAny_pure ⟨plainId_quiet PySem.F.plain_extend_loop _, codeAny_extend_loopS ((walk4 (prog := prog) (w := w) hh2 g1.objs.size a neI S f ep).toS) (by have := L_len (S 0) (S 1) (S 2) (S 3); show (L (S 0) (S 1) (S 2) (S 3)).length ≤ _; rw [sizeLine_eq]; omega) s.heap.objs.size neS _ (mem4 S).length 0 { s with heap := g4 } _ _ rfl (Nat.zero_le _)
  ⟨i4, k4 _ _ neA.symm o2⟩ l4 (ItemsOf.nil _) fun s' acc' c' hm hS' hacc => ?_⟩
 show wpAny _ A (load s.heap.objs.size >>= _) _ _ s'
 refine wpAny_bind (wpAny_load hS' ?_)
 have eacc : acc'.toList = ord w a S f ep := by
  refine List.ext_getElem? fun j => ?_
  rw [Array.getElem?_toList]
  by_cases hj : j < acc'.size
  ·rw [Array.getElem?_eq_getElem hj]
   exact (hacc.2 j acc'[j] (Array.getElem?_eq_getElem hj)).symm
  ·rw [Array.getElem?_eq_none (by omega), List.getElem?_eq_none (by rw [ord_len, ← hacc.1]; omega)]
 obtain ⟨h', g', d', tk', os'⟩ := s'
 have eg : g' = s.gens := hm.gens
 have ed : d' = s.drawn := hm.drawn
 have eo : os' = s.os := hm.os
 subst eg; subst ed; subst eo
 refine wpAny_pure ?_
 show Q acc'.toList _
 rw [eacc]
 have kk : ∀ b o, s.heap.get? b = some o → h'.get? b = some o := fun b o e => by
  have hb := Heap.lt_size e
  refine hm.heap b o (fun hmm => ?_) (k4 b o (Nat.ne_of_lt hb) (k2 _ _ (k1 _ _ e)))
  rcases List.mem_cons.mp hmm with z | z
  ·exact Nat.ne_of_lt hb z
  ·rw [z1] at z
   exact Nat.ne_of_lt (Nat.lt_succ_of_lt hb) (List.mem_singleton.mp z)
 exact h h' tk' kk (Nat.le_of_lt (Heap.lt_size hS'))
theorem mem4_up (S : Nat → Bool) : ((mem4 S).map fun k : Nat => (k : Int)).Pairwise (· ≤ ·) := by
 unfold mem4
 cases S 0 <;> cases S 1 <;> cases S 2 <;> cases S 3 <;> decide
end
end Set4
namespace L2
open PySem PySem.Spec PyProof.Rows Srt Set4
noncomputable def setO (w : World) (a : Addr) (S : Nat → Bool) : HO := .ext fun h => IsS4 h a S (!byT w)
section
variable {X : Cx}
theorem call_setS (hc : X.calm = true) : CallR X (.type "set") (fun xs H Q => ∃ (p : Addr) (ns : List Nat), xs = [.ref p] ∧ SqL X.K H p (ns.map fun n : Nat => V.int (n : Int)) ∧ (∀ n ∈ ns, n < 4) ∧ ∀ l, H l = none → Q (.ref l) (upd H l (setO X.w l fun k => decide (k ∈ ns)))) := by
 intro pins s σ H xs us Q I r h
 obtain ⟨p, ns, rfl, hq, h4, q⟩ := h
 obtain ⟨u, rfl, rx⟩ := vals1 r
 cases rx
 obtain ⟨its, rv, pl, hz⟩ := I.list hq
 have hl := rv.length
 rw [List.length_map] at hl
 have hval : ∀ (i : Nat) (v : Value), its.toArray[i]? = some v → ∃ t, v = .int ((ns.getD i 0 : Nat) : Int) t := fun i v e => by
  have e' : its[i]? = some v := by simpa using e
  have hi : i < ns.length := by rw [hl]; exact (List.getElem?_eq_some_iff.mp e').1
  obtain ⟨u, hu, ru⟩ := rv.get (i := i) (x := V.int ((ns[i] : Nat) : Int)) (by rw [List.getElem?_map, List.getElem?_eq_getElem hi]; rfl)
  rw [e'] at hu; cases hu
  rw [show ns.getD i 0 = ns[i] by simp [hi]]
  exact ru
 refine set4_list (I.ok.hd hc) pl.isList (val := fun i => ns.getD i 0) hval (fun i hi => ?_) fun h' tk hS hk => ?_
 ·have hi' : i < ns.length := by rw [hl]; simpa using hi
  show ns.getD i 0 < 4
  rw [show ns.getD i 0 = ns[i] by simp [hi']]
  exact h4 _ (List.getElem_mem _)
 ·have eS : acc (fun i => ns.getD i 0) its.toArray.size = fun k => decide (k ∈ ns) := funext fun k => by
   rw [Bool.eq_iff_iff, acc_iff, decide_eq_true_eq, List.size_toArray, ← hl]
   constructor
   ·rintro ⟨j, hj, e⟩
    have e' : ns.getD j 0 = k := e
    rw [show ns.getD j 0 = ns[j] by simp [hj]] at e'
    rw [← e']; exact List.getElem_mem _
   ·intro hm
    obtain ⟨j, hj, e⟩ := List.getElem_of_mem hm
    exact ⟨j, hj, by show ns.getD j 0 = k; rw [show ns.getD j 0 = ns[j] by simp [hj]]; exact e⟩
  rw [eS] at hS
  obtain ⟨f, ep, hf, ho⟩ := id hS
  exact ⟨.ref s.heap.objs.size, _, I.laid (t' := tk) (fun b o q => hk b o (Heap.lt_size q) q) (Nat.le_refl _) (o := setO X.w _ _) ⟨hS, ⟨_, ho⟩, fun h1 h2 x e => x.at e⟩, rfl, q _ (I.hok.fresh (Nat.le_refl _))⟩
theorem ints_vals : ∀ {ns : List Int} {us : List Value}, us.map numOf = ns → (∀ u ∈ us, ∃ n t, u = .int n t) → Vals (ns.map V.int) us
 | _, [], rfl, _ => .nil
 | _, u :: us, rfl, h => by
  obtain ⟨n, t, rfl⟩ := h u List.mem_cons_self
  exact .cons ⟨t, rfl⟩ (ints_vals rfl fun v hv => h v (List.mem_cons_of_mem _ hv))
theorem call_sortedS (hc : X.calm = true) : CallR X (.builtin "sorted") (fun xs H Q => ∃ (p : Addr) (S : Nat → Bool), xs = [.ref p] ∧ H p = some (setO X.w p S) ∧ ∀ l, H l = none → Q (.ref l) (upd H l (.lst ((mem4 S).map fun k : Nat => V.int (k : Int))))) := by
 intro pins s σ H xs us Q I r h
 obtain ⟨p, S, rfl, hp, q⟩ := h
 obtain ⟨u, rfl, rx⟩ := vals1 r
 cases rx
 obtain ⟨⟨f, ep, hf, ho⟩, _, _⟩ := (show ObjOk X.prog X.w H s.heap p (setO X.w p S) from I.hok _ _ hp)
 have hperm := ord_perm X.w p S f ep
 have hlen := ord_len X.w p S f ep
 have h4 : (mem4 S).length ≤ 4 := L_len (S 0) (S 1) (S 2) (S 3)
 have hint : ∀ v ∈ ord X.w p S f ep, ∃ n t, v = .int n t := fun v hv => by
  obtain ⟨k, hk, rfl⟩ := List.mem_map.mp (hperm.mem_iff.mp hv)
  obtain ⟨a, b⟩ := mem_mem4.mp hk
  obtain ⟨t, e⟩ := hf k a b
  exact ⟨_, t, e⟩
 generalize hvs : ord X.w p S f ep = vs at hperm hlen hint
 have hnum : (vs.map numOf).Perm ((mem4 S).map fun k : Nat => (k : Int)) := by
  refine (hperm.map numOf).trans (List.Perm.of_eq ?_)
  rw [List.map_map]
  refine List.map_congr_left fun k hk => ?_
  obtain ⟨a, b⟩ := mem_mem4.mp hk
  obtain ⟨t, e⟩ := hf k a b
  show numOf (f k) = _
  rw [e]; rfl
 have hI : IntsAre vs (vs.map numOf) := intsAre_map vs hint
 refine sorted_raw (κ := oneType') (r := fun i => numOf (vs.getD i Value.none)) (vs := vs) (by omega) (fun Q' k => collect4 (by simp [I.ok.hd hc]) ho fun h1 tk k1 z1 => by rw [hvs]; exact k h1 tk k1 z1) (fun h1 tk k1 h2 => ⟨fun Q2 q2 => ?_, fun i j C hi hj hC => ?_⟩) fun D h' tk c pp hD hpm hu o' k' => ?_
 ·obtain ⟨v1, v2, rest, e⟩ : ∃ v1 v2 rest, vs = v1 :: v2 :: rest := by
   match vs, h2 with
   | v1 :: v2 :: rest, _ => exact ⟨v1, v2, rest, rfl⟩
  subst e
  rw [keyKind_ints hI]
  exact wpAny_pure q2
 ·show wpAny _ _ (keyLt' oneType' (vs.getD i Value.none) (vs.getD j Value.none)) C (fun _ _ => False) _
  obtain ⟨n, t, e⟩ := hint _ (List.getElem_mem hi)
  obtain ⟨n2, t2, e2⟩ := hint _ (List.getElem_mem hj)
  have ei : vs.getD i Value.none = .int n t := by rw [← e]; simp [hi]
  have ej : vs.getD j Value.none = .int n2 t2 := by rw [← e2]; simp [hj]
  have hC' : C (decide (n < n2)) { s with heap := h1, toks := tk } := by
   have z : decide ((fun i => numOf (vs.getD i Value.none)) i < (fun i => numOf (vs.getD i Value.none)) j) = decide (n < n2) := by
    refine decide_eq_decide.mpr ?_
    show numOf (vs.getD i Value.none) < numOf (vs.getD j Value.none) ↔ _
    rw [ei, ej]; exact Iff.rfl
   rw [z] at hC; exact hC
  rw [ei, ej]
  exact PySem.W.kat_lt_int hC'
 ·have pperm := Array.perm_iff_toList_perm.mp hpm
  have outp : (pp.toList.map fun i => vs.getD i Value.none).Perm vs := by
   refine (pperm.map fun i => vs.getD i Value.none).trans (List.Perm.of_eq ?_)
   exact range_map vs
  have hup : ((pp.toList.map fun i => vs.getD i Value.none).map numOf).Pairwise (· ≤ ·) := by
   rw [List.map_map, List.pairwise_map, List.pairwise_iff_getElem]
   intro i j hi hj hij
   have hsz : pp.toList.length = vs.length := by rw [Array.length_toList, hpm.size]
   have h1 := hu i j (by omega) (by omega)
   have e : ∀ k (hk : k < pp.toList.length), at' pp k = pp.toList[k] := fun k hk => by
    have : k < pp.size := by simpa using hk
    unfold at'; simp [Array.getD, this]
   unfold R at h1
   rw [e i hi, e j hj] at h1
   exact h1
  have eout : (pp.toList.map fun i => vs.getD i Value.none).map numOf = (mem4 S).map fun k : Nat => (k : Int) := PySem.W.ksm_same ((outp.map numOf).trans hnum) hup (mem4_up S)
  have hv : Vals (((mem4 S).map fun k : Nat => (k : Int)).map V.int) (pp.toList.map fun i => vs.getD i Value.none) := ints_vals eout fun u hu' => hint u (outp.mem_iff.mp hu')
  rw [List.map_map] at hv
  exact ⟨.ref D, _, I.laid (t' := tk) (o := .lst ((mem4 S).map fun k : Nat => V.int (k : Int))) k' hD ⟨by rw [List.length_map, sizeLine_eq]; omega, _, c, hv, o'⟩, rfl, q _ (I.hok.fresh hD)⟩
end
end L2
namespace L2
open PySem PyProof.Rows
theorem comp_clNF {J : It} {S : Hp → Prop} {l : Addr} {bs : List Addr} {cl : List C3} {tt : TT} {te : TE} {H0 : Hp} {rest : St} {Q : St → Hp → Prop} (W : Wk J (bs.map V.ref) S) (hS : ∀ H', Same H0 H' → S H') (hC : ClP H0 bs cl) (hl : H0 l = none) (hz : bs.length ≤ 1000) (p : C3 → Bool) (f : C3 → V)
  (tst : ∀ b c H' Q', H' b = some (.tup [.int c.1, .int c.2.1, .int c.2.2]) → Same H0 H' → (∀ H2, Same H' H2 → Q' (p c) H2) → tt (some (.ref b) :: rest) H' Q')
  (turn : ∀ b c H' Q', H' b = some (.tup [.int c.1, .int c.2.1, .int c.2.2]) → Same H0 H' → (∀ H2, Same H' H2 → Q' (f c) H2) → te (some (.ref b) :: rest) H' Q') (hQ : ∀ σ H', Same H0 H' → H' l = some (.lst ((cl.filter p).map f)) → Q σ H') :
  tForJ J (gName 0) (tBodyC tt (tEmit l te)) (eC Q) (none :: rest) (upd H0 l (.lst [])) := by
 have hlen : bs.length = cl.length := Paired.length hC
 refine W (fun i σ H' => (∃ x, σ = x :: rest) ∧ Same H0 H' ∧ H' l = some (.lst (((cl.take i).filter p).map f))) ⟨⟨_, rfl⟩, same_upd hl, by rw [upd_same]; rfl⟩ (fun i σ H' _ h => hS _ h.2.1) ?_ ?_
 ·rintro i x σ H' hx ⟨⟨x0, rfl⟩, hs, hl'⟩
  rw [List.getElem?_map] at hx
  cases hb : bs[i]? with
  | none => rw [hb] at hx; cases hx
  | some b =>
   rw [hb] at hx; cases hx
   obtain ⟨c, hc, he⟩ := hC.get hb
   have hi : i < bs.length := (List.getElem?_eq_some_iff.mp hb).1
   have et : (cl.take (i + 1)).filter p = (cl.take i).filter p ++ (if p c = true then [c] else []) := by
    rw [List.take_succ, hc, List.filter_append]
    congr 1
    by_cases z : p c = true
    ·simp [z]
    ·simp [z]
   show tBodyC tt (tEmit l te) _ (some (.ref b) :: rest) H'
   refine tst b c H' _ (hs _ _ he) hs fun H2 h2 => ?_
   refine iteB (fun hz' => ?_) fun hz' => ?_
   ·refine turn b c H2 _ (h2 _ _ (hs _ _ he)) (hs.trans h2) fun H3 h3 => ?_
    have hfl := List.length_filter_le p (cl.take i)
    rw [List.length_take] at hfl
    refine ⟨_, h3 _ _ (h2 _ _ hl'), small1000 (by rw [List.length_map]; omega), ⟨_, rfl⟩, fun b u e => ?_, ?_⟩
    ·rw [upd_ne (ne_of_none e hl)]; exact h3 _ _ (h2 _ _ (hs _ _ e))
    ·rw [upd_same, et, if_pos hz', List.map_append]; rfl
   ·refine ⟨⟨_, rfl⟩, hs.trans h2, ?_⟩
    rw [et, if_neg (by rw [hz']; decide), List.append_nil]; exact h2 _ _ hl'
 ·rintro σ H' ⟨_, hs, hl'⟩
  rw [List.length_map, hlen, List.take_of_length_le (Nat.le_refl _)] at hl'
  exact hQ σ H' hs hl'
end L2
namespace M03
open PySem L2 PyProof.Rows Set4
noncomputable abbrev sHolders : Stmt := top 49
noncomputable abbrev sJoinedL : Stmt := top 52
noncomputable def holdS (cl : List C3) : Nat → Bool := fun k => hasH cl (k : Int)
theorem holdS_of {cl : List C3} (h : ∀ c ∈ cl, 0 ≤ c.1) : (fun k => decide (k ∈ cl.map fun c => c.1.toNat)) = holdS cl := funext fun k => by
 unfold holdS hasH
 rw [Bool.eq_iff_iff, decide_eq_true_eq, List.mem_map, List.any_eq_true]
 constructor
 ·rintro ⟨c, hc, e⟩
  exact ⟨c, hc, decide_eq_true (by have := h c hc; omega)⟩
 ·rintro ⟨c, hc, e⟩
  have := of_decide_eq_true e
  exact ⟨c, hc, by omega⟩
noncomputable def spHolders : Sp := fun vs H Q _ => ∃ a cl, vs = [.ref a] ∧ ClT H a cl ∧ ClOk cl ∧ ∀ l H', Same H H' → H' l = some (.lst ((mem4 (holdS cl)).map fun k : Nat => V.int (k : Int))) → Q (.ref l) H'
noncomputable def spJoinedL : Sp := fun vs H Q _ => ∃ a i j cl, vs = [.ref a, .int i, .int j] ∧ ClT H a cl ∧ ClOk cl ∧ (twoH cl i j = false → Told H Q [.str "no", .str "holder"]) ∧
 (twoH cl i j = true → ∀ k, k < 6 → (∀ r : Nat, r < k → rt cl i j (r : Int) ≤ 20) → 20 < rt cl i j (k : Int) → Told H Q [.str "no", .str "many", .int (rt cl i j (k : Int)), .int 20]) ∧
 (twoH cl i j = true → (∀ r : Nat, r < 6 → rt cl i j (r : Int) ≤ 20) → ∀ a' cl' t H', Same H H' → ClT H' a' cl' → ClOk cl' → cl'.Perm (joinL cl i j) → H' t = some (.tup [.str "told", .ref a']) → Q (.ref t) H')
section
variable {P : Program} {w : World} {K : PySem.W.Frag} {mg : Str → Option Value} {base : Heap}
theorem scHolders : FnScope ["_law_claims_here"] ["_law_claims_here"] (defScope sHolders) := ⟨rfl, rfl, rfl, by decide +kernel, rfl, by decide +kernel, by decide +kernel⟩
theorem ndC1 : (["_law_claim"] : List Str).Nodup := by decide +kernel
theorem ok_holders {f : Addr} {fd : FuncData} (F : Fun K "_law_holders" "_law_holders" sHolders f fd) (T : Txt mg) : FnOk P w K mg base CX0 1 f fd ["_law_claims_here"] spHolders := by
 refine F.ok scHolders (fun vs H Q E h => ?_) (fun cdv A outer s H vs Q E hr h => ?_)
 ·obtain ⟨a, cl, rfl, _⟩ := h; rfl
 ·obtain ⟨a, cl, rfl, ⟨bs, ha, hC⟩, G, q⟩ := h
  have hl : bs.length = cl.length := Paired.length hC
  have h12 := G.l12
  refine ⟨_, pss_one (ps_ret (pe_callB (call_sortedS rfl) rfl T.sorted boot_sorted (pa_k (pe_callTy (call_setS rfl) rfl T.set PyProof.Rows.boot_set (pa_lc (pe_comp1 (defScope sHolders).names ["_law_claims_here"] ["_law_claim"] [] rfl (pi_tup (pv 0)) rfl rfl rfl (by decide +kernel)
   (fun Z => pg_name (i := 0) ndC1 rfl (Or.inl rfl)) (fun Z => pts_nil) (fun Z => pe_ix ix_tup (pv 0) pe_int (fun _ _ => rfl))) pa_nil)) pa_nil))), ?_⟩
  refine ⟨_, rfl, a, rfl, ⟨_, SqT.of ha⟩, fun Z l hl0 => ?_⟩
  refine comp_clM (rest := []) wk_tup (fun H' hs => SqT.of (hs _ _ ha)) hC hl0 (by omega) (fun c => .int c.1) (fun b c H' Q' hm he hs hq => ⟨_, rfl, b, _, 0, .int c.1, rfl, rfl, SqT.of he, atI_nat (j := 0) rfl, hq _ (Same.refl _)⟩) fun σ H' hs hl2 => ?_
  have h0 : ∀ c ∈ cl, 0 ≤ c.1 := fun c hc => (G.num c hc).1.1
  have e2 : (cl.map fun c => V.int c.1) = (cl.map fun c => c.1.toNat).map fun n : Nat => V.int (n : Int) := by
   rw [List.map_map]
   refine List.map_congr_left fun c hc => ?_
   have := h0 c hc
   show V.int c.1 = V.int ((c.1.toNat : Nat) : Int)
   rw [Int.toNat_of_nonneg this]
  rw [e2] at hl2
  refine ⟨l, cl.map fun c => c.1.toNat, rfl, SqL.of hl2, fun n hn => ?_, fun l2 hl3 => ?_⟩
  ·obtain ⟨c, hc, rfl⟩ := List.mem_map.mp hn
   have := (G.num c hc).1
   omega
  ·rw [holdS_of h0]
   have s2 := same_upd (o := setO w l2 (holdS cl)) hl3
   refine ⟨l2, holdS cl, rfl, upd_same, fun l4 hl4 => ?_⟩
   have s3 := same_upd (o := .lst ((mem4 (holdS cl)).map fun k : Nat => V.int (k : Int))) hl4
   exact q l4 _ ((hs.trans s2).trans s3) upd_same
end
end M03
namespace M03
open PySem L2 PyProof.Rows Set4
noncomputable def rowsK (cl : List C3) (i j : Int) (k : Nat) : List C3 := keptL cl i j ++ ((sumsL cl i j).take k).filter fun c => decide (c.2.2 > 0)
theorem rowsK_zero (cl : List C3) (i j : Int) : rowsK cl i j 0 = keptL cl i j := by unfold rowsK; simp
theorem rowsK_six (cl : List C3) (i j : Int) : rowsK cl i j 6 = joinL cl i j := by
 unfold rowsK joinL posL
 rw [List.take_of_length_le (by unfold sumsL; rw [List.length_map, List.length_range]; exact Nat.le_refl _)]
theorem rowsK_succ (cl : List C3) (i j : Int) {k : Nat} (hk : k < 6) : rowsK cl i j (k + 1) = rowsK cl i j k ++ (if rt cl i j (k : Int) > 0 then [(i, (k : Int), rt cl i j (k : Int))] else []) := by
 unfold rowsK
 rw [List.take_succ, sums_get cl i j hk, List.filter_append, List.append_assoc]
 congr 1
 by_cases z : rt cl i j (k : Int) > 0
 ·simp [z]
 ·simp [z]
theorem paired_app {α β : Type} {R : α → β → Prop} : ∀ {xs : List α} {ys : List β} {us : List α} {vs : List β}, Paired R xs ys → Paired R us vs → Paired R (xs ++ us) (ys ++ vs)
 | _, _, _, _, .nil, h => h
 | _, _, _, _, .cons r t, h => .cons r (paired_app t h)
theorem rowsK_len (cl : List C3) (i j : Int) (k : Nat) : (rowsK cl i j k).length ≤ cl.length + 6 := by
 unfold rowsK keptL
 rw [List.length_append]
 have h1 := List.length_filter_le (fun c => !isIJ i j c) cl
 have h2 := List.length_filter_le (fun c : C3 => decide (c.2.2 > 0)) ((sumsL cl i j).take k)
 rw [List.length_take] at h2
 have h3 : (sumsL cl i j).length = 6 := by unfold sumsL; rw [List.length_map, List.length_range]
 omega
theorem e3_ints {H : Hp} {n : Nat} (x : Int) : ∀ ns : List Nat, E3 (EqD H n) (ns.map fun k : Nat => V.int (k : Int)) ((ns.map fun k : Nat => V.int (k : Int)).map fun _ => V.int x) (ns.map fun k : Nat => decide ((k : Int) = x))
 | [] => trivial
 | k :: ns => ⟨EqD.int _ _ _, e3_ints x ns⟩
theorem any_hold {cl : List C3} (G : ClOk cl) (x : Int) : ((mem4 (holdS cl)).map fun k : Nat => decide ((k : Int) = x)).any id = hasH cl x := by
 rw [List.any_map, Bool.eq_iff_iff, List.any_eq_true]
 constructor
 ·rintro ⟨k, hk, e⟩
  have e' : (k : Int) = x := of_decide_eq_true e
  have := (mem_mem4.mp hk).2
  unfold holdS at this
  rw [e'] at this
  exact this
 ·intro h
  obtain ⟨c, hc, e⟩ := List.any_eq_true.mp h
  have e' : c.1 = x := of_decide_eq_true e
  have hb := (G.num c hc).1
  refine ⟨x.toNat, mem_mem4.mpr ⟨by omega, ?_⟩, decide_eq_true (by omega)⟩
  unfold holdS
  rw [show ((x.toNat : Nat) : Int) = x by omega]
  exact h
section
variable {P : Program} {w : World} {K : PySem.W.Frag} {mg : Str → Option Value} {base : Heap}
noncomputable abbrev nJL : List Str := ["_law_claims_here", "_law_one", "_law_other", "_law_holders_here", "_law_rows", "_law_sort", "_law_many"]
theorem scJoinedL : FnScope nJL ["_law_claims_here", "_law_one", "_law_other"] (defScope sJoinedL) := ⟨rfl, rfl, rfl, by decide +kernel, rfl, by decide +kernel, by decide +kernel⟩
theorem ndL3 : (["_law_claim", "_law_one", "_law_other"] : List Str).Nodup := by decide +kernel
theorem ndL4 : (["_law_claim", "_law_one", "_law_other", "_law_sort"] : List Str).Nodup := by decide +kernel
theorem ok_joinedL {f g1 : Addr} {fd d1 : FuncData} (F : Fun K "_law_joined" "_law_joined" sJoinedL f fd) (T : Txt mg) (a1 : At P w K mg base 1 "_law_holders" g1 d1 ["_law_claims_here"] spHolders) : FnOk P w K mg base CX0 2 f fd ["_law_claims_here", "_law_one", "_law_other"] spJoinedL := by
  refine F.ok scJoinedL (fun vs H Q E h => ?_) (fun cdv A outer s H vs Q E hr h => ?_)
  · obtain ⟨a, i, j, cl, rfl, _⟩ := h; rfl
  · obtain ⟨a, i, j, cl, rfl, hA, G, q1, q2, q3⟩ := h
    have nd := scJoinedL.nd
    have hu := hu_of hr
    refine ⟨_, pss_cons (ps_set (i := 3) nd rfl (Or.inl rfl) (pe_call a1.ok hr rfl a1.nm a1.kp a1.bd .nil pass0 (pa_v (pv 0) pa_nil))) <|
      pss_cons (ps_if (PW.pt (pw_or (pt_cmpR (op_notInD 0 hu) (pv 1) (pv 3) rfl) (pw_or (pt_cmpR (op_notInD 0 hu) (pv 2) (pv 3) rfl) (pw_or1 (pt_cmpR op_eq (pv 1) (pv 2) (nomark _)))))) (pss_one (ps_ret (pe_tup (pa_c pe_str (pa_c pe_str pa_nil))))) pss_nil) <|
      pss_cons (ps_setC1 (i := 4) (defScope sJoinedL).names nJL ["_law_claim"] [("_law_one", 1), ("_law_other", 2)] rfl nd rfl rfl (pi_tup (pv 0)) rfl rfl rfl (by decide +kernel)
        (fun Z => pg_name (i := 0) ndL3 rfl (Or.inl rfl)) (fun Z => pts_one (pt_cmpR (op_notInD 0 hu) (pe_ix ix_tup (pv 0) pe_int (fun _ _ => rfl)) (pe_tup (pa_v (pv 1) (pa_v (pv 2) pa_nil))) rfl)) (fun Z => pv 0)) <|
      pss_cons (ps_for PassesOwn.never rfl (pi_range1 rfl T.range (pa_c pe_int pa_nil)) (pg_name (i := 5) nd rfl (Or.inr rfl))
        (pss_cons (ps_set (i := 6) nd rfl (Or.inl rfl) (pe_callB (call_sumK rfl) rfl T.sum boot_sum (pa_lc (pe_comp1 (defScope sJoinedL).names nJL ["_law_claim"] [("_law_one", 1), ("_law_other", 2), ("_law_sort", 5)] rfl (pi_tup (pv 0)) rfl rfl rfl (by decide +kernel)
          (fun Z => pg_name (i := 0) ndL4 rfl (Or.inl rfl)) (fun Z => pts_one (PW.pt (pw_and (pt_cmpR op_eq (pe_ix ix_tup (pv 0) pe_int (fun _ _ => rfl)) (pv 3) (nomark _)) (pw_and1 (pt_cmpR (op_inD 0 hu) (pe_ix ix_tup (pv 0) pe_int (fun _ _ => rfl)) (pe_tup (pa_v (pv 1) (pa_v (pv 2) pa_nil))) rfl))))) (fun Z => pe_ix ix_tup (pv 0) pe_int (fun _ _ => rfl))) pa_nil))) <|
         pss_cons (ps_if (pt_cmpR op_gt (pv 6) pe_int (nomark _)) (pss_one (ps_ret (pe_tup (pa_c pe_str (pa_c pe_str (pa_v (pv 6) (pa_c pe_int pa_nil))))))) pss_nil) <|
         pss_one (ps_set (i := 4) nd rfl (Or.inl rfl) (pe_op op_cat (pv 4) (pe_op op_rep (pe_lst (pa_t (pe_tup (pa_v (pv 1) (pa_v (pv 5) (pa_v (pv 6) pa_nil)))) pa_nil)) (pe_callTy call_int1 rfl T.int boot_int (pa_cons (pe_cmpR op_gt (pv 6) pe_int (nomark _)) pa_nil))))))) <|
      pss_one (ps_ret (pe_tup (pa_c pe_str (pa_k (pe_callTy call_tuple_of rfl T.tuple boot_tuple (pa_k (pe_callB call_sortedT rfl T.sorted boot_sorted (pa_v (pv 4) pa_nil)) pa_nil)) pa_nil)))), ?_⟩
    obtain ⟨bs, ha, hC⟩ := id hA
    have hl : bs.length = cl.length := Paired.length hC
    have h12 := G.l12
    refine ⟨_, rfl, a, cl, rfl, hA, G, fun lh H1 s1 hlh => ?_⟩
    refine ⟨_, rfl, _, rfl, lh, _, _, rfl, .inr hlh, e3_ints i _, _, rfl, ?_⟩
    rw [any_hold G i]
    refine iteB (fun z => ?_) fun z => ?_
    · exact iteT ⟨by show 2 ≤ sizeLine; decide, fun t ht => q1 (by unfold twoH; rw [show hasH cl i = false by simpa using z]; rfl) t _ (s1.trans (same_upd ht)) upd_same⟩
    have hi : hasH cl i = true := by simpa using z
    refine ⟨_, rfl, _, rfl, lh, _, _, rfl, .inr hlh, e3_ints j _, _, rfl, ?_⟩
    rw [any_hold G j]
    refine iteB (fun z => ?_) fun z => ?_
    · exact iteT ⟨by show 2 ≤ sizeLine; decide, fun t ht => q1 (by unfold twoH; rw [hi, show hasH cl j = false by simpa using z]; rfl) t _ (s1.trans (same_upd ht)) upd_same⟩
    have hj : hasH cl j = true := by simpa using z
    refine ⟨_, rfl, _, rfl, rfl, _, rfl, ite2d (fun z => ?_) fun z => ?_⟩
    · exact ⟨by show 2 ≤ sizeLine; decide, fun t ht => q1 (by unfold twoH; rw [hi, hj]; simp [V.int.inj z]) t _ (s1.trans (same_upd ht)) upd_same⟩
    have htw : twoH cl i j = true := by unfold twoH; rw [hi, hj]; simp only [Bool.true_and, decide_eq_true_eq]; exact fun e => z (by rw [e])
    have q2' := q2 htw
    have q3' := q3 htw
    have ha1 := s1 _ _ ha
    have hC1 := hC.ext s1.ext
    refine ⟨_, rfl, a, rfl, ⟨_, SqT.of ha1⟩, fun Z l hl0 => ?_⟩
    refine comp_clN (fun c => !isIJ i j c) wk_tup (fun H' hs => SqT.of (hs _ _ ha1)) hC1 hl0 (by omega) (fun b y Hk Q' he hs hq => ?_) fun σ H2 bs' s2 hk2 hC2 => ?_
    · refine ⟨_, rfl, b, _, 0, .int y.1, rfl, rfl, SqT.of he, atI_nat (j := 0) rfl, _, rfl, _, rfl, by show 2 ≤ sizeLine; decide, fun t ht => ?_⟩
      refine ⟨t, [.int i, .int j], [decide (i = y.1), decide (j = y.1)], rfl, .inl upd_same, ⟨EqD.int _ _ _, EqD.int _ _ _, trivial⟩, _, rfl, ?_⟩
      have ed : (!([decide (i = y.1), decide (j = y.1)].any id)) = !isIJ i j y := by unfold isIJ; simp
      rw [ed]
      exact hq _ (same_upd ht)
    have s02 := s1.trans s2
    refine ⟨6, rfl, by decide, by decide, ?_⟩
    refine for_range (lo := 0) (n := 6) (fun k σ H' => (∃ r o5 o6, σ = [some (.ref a), some (.int i), some (.int j), some (.ref lh), some (.ref r), o5, o6] ∧ ∃ rs : List Addr, H' r = some (.lst (rs.map V.ref)) ∧ ClP H' rs (rowsK cl i j k)) ∧ Same H H' ∧ ∀ r : Nat, r < k → rt cl i j (r : Int) ≤ 20)
      ⟨⟨l, _, _, rfl, bs', hk2, by rw [rowsK_zero]; exact hC2⟩, s02, fun r hr => absurd hr (Nat.not_lt_zero _)⟩ ?_ ?_
    · rintro k σ H' hk ⟨⟨r, o5, o6, rfl, rs, hr', hR⟩, hs, h20⟩
      have ha' := hs _ _ ha
      have hC' := hC.ext hs.ext
      refine ⟨_, rfl, a, rfl, ⟨_, SqT.of ha'⟩, fun Z l3 hl3 => ?_⟩
      refine comp_clNF (rest := [some (.int i), some (.int j), some (.int (0 + (k : Int)))]) wk_tup (fun H2 h2 => SqT.of (h2 _ _ ha')) hC' hl3 (by omega) (isR i j (k : Int)) (fun c => .int c.2.2) (fun b c H2 Q' he h2 hq => ?_) (fun b c H2 Q' he h2 hq => ⟨_, rfl, b, _, 2, .int c.2.2, rfl, rfl, SqT.of he, atI_nat (j := 2) rfl, hq _ (Same.refl _)⟩) fun σ H3 s3 hl3' => ?_
      · refine ⟨_, rfl, b, _, 1, .int c.2.1, rfl, rfl, SqT.of he, atI_nat (j := 1) rfl, _, rfl, rfl, _, rfl, ?_⟩
        have e0 : decide (V.int c.2.1 = V.int (0 + (k : Int))) = decide (c.2.1 = (k : Int)) := decide_eq_decide.mpr ⟨fun z => by have := V.int.inj z; omega, fun z => by rw [z]; congr 1; omega⟩
        rw [e0]
        refine iteB (fun z => ?_) fun z => ?_
        · refine ⟨_, rfl, b, _, 0, .int c.1, rfl, rfl, SqT.of he, atI_nat (j := 0) rfl, _, rfl, _, rfl, by show 2 ≤ sizeLine; decide, fun t ht => ?_⟩
          refine ⟨t, [.int i, .int j], [decide (i = c.1), decide (j = c.1)], rfl, .inl upd_same, ⟨EqD.int _ _ _, EqD.int _ _ _, trivial⟩, _, rfl, ?_⟩
          have e1 : [decide (i = c.1), decide (j = c.1)].any id = (decide (i = c.1) || decide (j = c.1)) := by simp
          have := hq _ (same_upd (o := .tup [.int i, .int j]) ht)
          unfold isR at this
          rw [z, Bool.and_true, ← e1] at this
          exact this
        · have := hq H2 (Same.refl _)
          unfold isR at this
          rw [z, Bool.and_false] at this
          exact this
      have hfl := List.length_filter_le (isR i j (k : Int)) cl
      refine ⟨l3, (cl.filter (isR i j (k : Int))).map (fun c : C3 => c.2.2), rfl, SqL.of (by rw [hl3', List.map_map]; rfl), by rw [List.length_map]; omega, fun n hn => ?_, ?_⟩
      · obtain ⟨c, hc, rfl⟩ := List.mem_map.mp hn
        have := (G.num c (List.mem_filter.mp hc).1).2.2
        omega
      have s03 := hs.trans s3
      refine ⟨_, rfl, _, _, rfl, rfl, _, rfl, ite2d (fun hgt => ?_) fun hle => ?_⟩
      · exact ⟨_, rfl, by show 4 ≤ sizeLine; decide, fun t ht => q2' k hk h20 hgt t _ (s03.trans (same_upd ht)) upd_same⟩
      have hle' : rt cl i j (k : Int) ≤ 20 := by
        have h9 : ¬ (20 : Int) < rt cl i j (k : Int) := hle
        omega
      have h21 : ∀ x : Nat, x < k + 1 → rt cl i j (x : Int) ≤ 20 := fun x hx => by
        by_cases z : x = k
        · rw [z]; exact hle'
        · exact h20 x (by omega)
      have hr3 := s3 _ _ hr'
      have hR3 := ClP.ext hR s3.ext
      have hrl : rs.length = (rowsK cl i j k).length := Paired.length hR
      have hrk := rowsK_len cl i j k
      have e00 : (0 + (k : Int)) = (k : Int) := by omega
      refine ⟨_, rfl, _, rfl, _, rfl, _, rfl, by show 3 ≤ sizeLine; decide, fun u hu' => ?_⟩
      have s4 := same_upd (o := .tup [.int i, .int (0 + (k : Int)), .int (rt cl i j (k : Int))]) hu'
      refine ⟨by show 1 ≤ sizeLine; decide, fun l4 hl4 => ?_⟩
      have s5 := same_upd (o := .lst [.ref u]) hl4
      refine ⟨_, rfl, _, _, rfl, rfl, .inr ⟨_, rfl, ?_⟩⟩
      obtain ⟨us, hn, hus, hrow⟩ : ∃ us : List Addr, (if decide (rt cl i j (k : Int) > 0) = true then (1 : Int) else 0) = (us.length : Int) ∧ (us = [u] ∨ us = []) ∧ rowsK cl i j (k + 1) = rowsK cl i j k ++ us.map fun _ => (i, (k : Int), rt cl i j (k : Int)) := by
        by_cases hp : rt cl i j (k : Int) > 0
        · exact ⟨[u], by rw [if_pos (decide_eq_true hp)]; rfl, .inl rfl, by rw [rowsK_succ cl i j hk, if_pos hp]; rfl⟩
        · exact ⟨[], by rw [if_neg (by rw [decide_eq_false hp]; decide)]; rfl, .inr rfl, by rw [rowsK_succ cl i j hk, if_neg hp]; rfl⟩
      have hul : us.length ≤ 1 := by rcases hus with e | e <;> rw [e] <;> simp
      have hfl2 : (List.replicate ((us.length : Int)).toNat [V.ref u]).flatten = us.map V.ref := by rcases hus with e | e <;> rw [e] <;> rfl
      refine ⟨l4, (us.length : Int), [.ref u], rfl, congrArg V.int hn, upd_same, by omega, by omega, by rw [sizeLine_eq]; show 1 * _ ≤ _; omega, fun l5 hl5 => ?_⟩
      rw [hfl2]
      have s6 := same_upd (o := .lst (us.map V.ref)) hl5
      have sB := (s4.trans s5).trans s6
      refine ⟨r, l5, _, _, rfl, rfl, sB _ _ hr3, upd_same, by rw [List.length_map, List.length_map, sizeLine_eq]; omega, fun l6 hl6 => ?_⟩
      have s7 := same_upd (o := .lst (rs.map V.ref ++ us.map V.ref)) hl6
      have sC := sB.trans s7
      refine ⟨⟨l6, _, _, rfl, rs ++ us, by rw [upd_same, List.map_append], ?_⟩, s03.trans sC, h21⟩
      rw [hrow]
      refine paired_app (ClP.ext hR3 sC.ext) ?_
      rcases hus with e | e
      · subst e
        refine .cons ?_ .nil
        have := s7 _ _ (s6 _ _ (s5 _ _ (upd_same (H := H3) (a := u) (o := .tup [.int i, .int (0 + (k : Int)), .int (rt cl i j (k : Int))]))))
        refine this.trans ?_
        show some (HO.tup [.int i, .int (0 + (k : Int)), .int (rt cl i j (k : Int))]) = some (HO.tup [.int i, .int (k : Int), .int (rt cl i j (k : Int))])
        rw [e00]
      · subst e
        exact .nil
    rintro σ H' ⟨⟨r, o5, o6, rfl, rs, hr', hR⟩, hs, h20⟩
    rw [rowsK_six] at hR
    obtain ⟨zs, z1, z2, z3⟩ := clP_zs hR
    have hzl : zs.length = (joinL cl i j).length := by have := congrArg List.length z2; rw [List.length_map, List.length_map] at this; exact this
    have hjl := joinL_len cl i j
    refine ⟨_, rfl, r, zs, rfl, SqL.of (by rw [hr', ← z1, List.map_map]; rfl), fun z hz => z3 z hz, by omega, fun l7 zs' hl7 hs2 => ?_⟩
    obtain ⟨c1, hc1, _⟩ := joinL_one G (j := j) hi
    obtain ⟨gO, gP, gR⟩ := clOk_of z2 hs2 (List.length_pos_of_mem hc1) (by omega) (joinL_num G hi h20) (joinL_keys G i j)
    have s7 := same_upd (o := .lst (zs'.map fun z => V.ref z.1)) hl7
    refine ⟨l7, _, rfl, .inl ⟨SqL.of upd_same, fun a' ha' => ?_⟩⟩
    have s8 := same_upd (o := .tup (zs'.map fun z => V.ref z.1)) ha'
    refine ⟨by show 2 ≤ sizeLine; decide, fun t ht => ?_⟩
    have s9 := same_upd (o := .tup [.str "told", .ref a']) ht
    refine q3' h20 a' _ t _ (((hs.trans s7).trans s8).trans s9) (clT_of (s9 _ _ upd_same) fun z hz => ?_) gO gP upd_same
    have hm := hs2.1.mem_iff.mp hz
    rw [← gR z hz]
    exact s9 _ _ (s8 _ _ (s7 _ _ (z3 z hm).1))
end
end M03
namespace L2
open PySem PySem.Spec PyProof.Rows
theorem TabI.same {H H1 : Hp} {T : Addr} {ps : Array Value} {qual : Str} {poss : List Pos} (h : TabI H T ps qual poss) (s : Same H H1) : TabI H1 T ps qual poss :=
 ⟨s _ _ h.at', h.tr, fun pos hp => (h.cd pos hp).imp id fun ⟨c', e1, e2⟩ => ⟨c', e1, s _ _ e2⟩⟩
theorem TabI.stp {p : Addr} {H H1 : Hp} {T : Addr} {ps : Array Value} {qual : Str} {poss : List Pos} (h : TabI H T ps qual poss) (hp : PenAt H p) (s : Stp p H H1) : TabI H1 T ps qual poss := by
 obtain ⟨x, y, e⟩ := hp
 refine ⟨s.keep _ _ (fun z => by rw [← z, h.at'] at e; cases e) h.at', h.tr, fun pos hp => (h.cd pos hp).imp id fun ⟨c', e1, e2⟩ => ⟨c', e1, s.keep _ _ (fun z => ?_) e2⟩⟩
 rw [← z, e2] at e; cases e
theorem Fun.okC {P : Program} {w : World} {K : PySem.W.Frag} {mg : Str → Option Value} {base : Heap} {x qual : Str} {st : Stmt} {f c : Addr} {fd : FuncData} {N ps : List Str} {k : Nat} {sp : Sp} (F : Fun K x qual st f fd) (S : FnScope N ps (defScope st)) (hc : fd.code = .ref c) (len : ∀ vs H Q E, sp vs H Q E → vs.length = ps.length)
  (hbody : ∀ (A : Around) (outer : List Env) (s : Shared) (H : Hp) (vs : List V) (Q : VK) (E : XK), Room k (A.deeper (envOfC qual (defScope st) s.heap.objs.size f (.ref c))) → sp vs H Q E →
   ∃ t, PSs (cxOf CX0 P w K mg base N qual (defScope st) f (.ref c) A outer s H E).nox (defBody st) t ∧ t { nx := fun _ H' => Q .non H', rt := Q } (start N vs) H) : FnOk P w K mg base CX0 (k + 1) f fd ps sp := by
 obtain ⟨oc, od, kV, doc, pm, an, cdv, ct, osl, rfl, lk, hcd⟩ := F.ex
 have e : cdv = .ref c := hc
 subst e
 refine fn_of lk hcd S len fun A outer s H vs Q E hr hsp => ?_
 obtain ⟨t, h, q⟩ := hbody A outer s H vs Q E hr hsp
 exact ⟨t, h.nox, q⟩
end L2
namespace M03
open PySem L2 PyProof.Rows
theorem lt2_asym {a b : Int × Int} (h : lt2 a b = true) : ¬ lt2 b a = true := by
 obtain ⟨a1, a2⟩ := a
 obtain ⟨b1, b2⟩ := b
 unfold lt2 at h ⊢
 dsimp only at h ⊢
 rw [HT.lexLt_cons, HT.lexLt_cons, HT.lexLt_nil_nil] at h ⊢
 by_cases e1 : a1 = b1
 ·subst e1
  rw [if_pos rfl] at h ⊢
  by_cases e2 : a2 = b2
  ·subst e2
   rw [if_pos rfl] at h; cases h
  ·rw [if_neg e2, decide_eq_true_eq] at h
   rw [if_neg (fun z => e2 z.symm), decide_eq_true_eq]; omega
 ·rw [if_neg e1, decide_eq_true_eq] at h
  rw [if_neg (fun z => e1 z.symm), decide_eq_true_eq]; omega
theorem clOk_eq {x y : List C3} (gx : ClOk x) (gy : ClOk y) (h : x.Perm y) : x = y := by
 have px : x.Pairwise fun a b => lt2 (key2 a) (key2 b) = true := List.pairwise_map.mp gx.up
 have py : y.Pairwise fun a b => lt2 (key2 a) (key2 b) = true := List.pairwise_map.mp gy.up
 exact h.eq_of_pairwise (fun a b _ _ h1 h2 => absurd h2 (lt2_asym h1)) px py
theorem clT_same {H : Hp} {a b : Addr} {cl : List C3} (ha : ClT H a cl) (hb : ClT H b cl) (hz : cl.length ≤ 12) (n : Nat) : SameV H (n + 2) (.ref a) (.ref b) := by
 obtain ⟨bs, h1, c1⟩ := ha
 obtain ⟨ds, h2, c2⟩ := hb
 have l1 : bs.length = cl.length := Paired.length c1
 refine .inr ⟨a, b, _, _, rfl, rfl, .inr ⟨h1, h2⟩, by rw [List.length_map]; omega, ?_⟩
 clear h1 h2 hz l1
 induction cl generalizing bs ds with
 | nil => cases c1; cases c2; exact .nil
 | cons c cl ih =>
  cases c1 with
  | cons r1 t1 =>
   cases c2 with
   | cons r2 t2 =>
    refine .cons (.inr ⟨_, _, _, _, rfl, rfl, .inr ⟨r1, r2⟩, by show 3 ≤ 1000; decide, .cons (SameV.int _ _) (.cons (SameV.int _ _) (.cons (SameV.int _ _) .nil))⟩) (ih _ t1 _ t2)
noncomputable def spPickT : Sp := fun vs H Q _ => ∃ p l xs, vs = [.ref p, .ref l] ∧ PenAt H p ∧ H l = some (.tup xs) ∧ 1 ≤ xs.length ∧ xs.length ≤ 1000 ∧ ∀ v H', v ∈ xs → Stp p H H' → Q v H'
section
variable {P : Program} {w : World} {K : PySem.W.Frag} {mg : Str → Option Value} {base : Heap}
theorem ok_pickT {f g1 : Addr} {fd d1 : FuncData} (F : Fun K "_law_pick" "_law_pick" sPick f fd) (T : Txt mg) (a1 : At P w K mg base 1 "_law_draw" g1 d1 ["_law_pen_here", "_law_bound"] spDraw) : FnOk P w K mg base CX0 2 f fd ["_law_pen_here", "_law_things"] spPickT := by
 refine F.ok scPick (fun vs H Q E h => ?_) (fun cdv A outer s H vs Q E hr h => ?_)
 ·obtain ⟨p, l, xs, rfl, _⟩ := h; rfl
 ·obtain ⟨p, l, xs, rfl, hp, hl, h1, h1000, q⟩ := h
  have hlp : l ≠ p := PenAt.ne hp hl (fun xs z => by cases z)
  refine ⟨_, pss_one (ps_ret (pe_ix ix_tup (pv 1) (pe_call a1.ok hr rfl a1.nm a1.kp a1.bd .nil pass0 (pa_v (pv 0) (pa_k (pe_callB call_len_seq rfl T.len PySem.boot_len (pa_v (pv 1) pa_nil)) pa_nil))) (fun _ _ => rfl))), ?_⟩
  refine ⟨_, rfl, _, rfl, _, rfl, l, _, rfl, .inr (SqT.of hl), p, _, rfl, hp, by omega, by omega, fun d H1 d0 d1 st => ?_⟩
  have hd : d.toNat < xs.length := by omega
  refine ⟨l, xs, d, xs[d.toNat], rfl, rfl, SqT.of (st.keep l _ hlp hl), ?_, q _ _ (List.getElem_mem hd) st⟩
  have := atI_nat (List.getElem?_eq_getElem hd)
  rw [show ((d.toNat : Nat) : Int) = d by omega] at this
  exact this
end
end M03
namespace M03
open PySem L2 PyProof.Rows
noncomputable abbrev sLaw : Stmt := top 54
noncomputable abbrev nLaw : List Str := ["_law_script", "_law_cell_here", "_law_pen_here", "_law_kept", "_law_own", "_law_drawn", "_law_turn", "_law_claim", "_law_claims_here", "_law_one", "_law_other"]
noncomputable def forBody (s : Stmt) : List Stmt := match s with | .For _ _ b _ _ => b | _ => []
noncomputable abbrev lawFor : List Stmt := forBody ((defBody sLaw).getD 0 (.Pass ⟨0, 0, 0, 0⟩))
theorem scLaw : FnScope nLaw ["_law_script"] (defScope sLaw) := ⟨rfl, rfl, rfl, by decide +kernel, rfl, by decide +kernel, by decide +kernel⟩
noncomputable abbrev XL (P : Program) (w : World) (K : PySem.W.Frag) (mg : Str → Option Value) (base : Heap) (f : Addr) (cdv : Value) (A : Around) (outer : List Env) (s : Shared) (H0 : Hp) (E : XK) : Cx := (cxOf CX0 P w K mg base nLaw "law" (defScope sLaw) f cdv A outer s H0 E).nox
noncomputable def lamOf (s : Stmt) : Expr := match s with | .If (.UnaryOp _ (.Call _ (.Call _ (l :: _) _ _ :: _) _ _) _) _ _ _ => l | _ => .Constant .none 0 ⟨0, 0, 0, 0⟩
noncomputable def lamA (e : Expr) (d : Arguments) : Arguments := match e with | .Lambda a _ _ _ => a | _ => d
noncomputable def lamB (e : Expr) : Expr := match e with | .Lambda _ b _ _ => b | e => e
noncomputable def lamS (e : Expr) : Scope := match e with | .Lambda _ _ s _ => s | _ => defScope sLaw
noncomputable def lamP (e : Expr) : Pos := match e with | .Lambda _ _ _ p => p | _ => ⟨0, 0, 0, 0⟩
noncomputable abbrev st1 : Stmt := (forBody (lawFor.getD 4 (.Pass ⟨0, 0, 0, 0⟩))).getD 0 (.Pass ⟨0, 0, 0, 0⟩)
noncomputable abbrev st2 : Stmt := (forBody (lawFor.getD 4 (.Pass ⟨0, 0, 0, 0⟩))).getD 1 (.Pass ⟨0, 0, 0, 0⟩)
noncomputable abbrev st3 : Stmt := (forBody (lawFor.getD 5 (.Pass ⟨0, 0, 0, 0⟩))).getD 1 (.Pass ⟨0, 0, 0, 0⟩)
noncomputable abbrev lam1 : Expr := lamOf st1
noncomputable abbrev lam2 : Expr := lamOf st2
noncomputable abbrev lam3 : Expr := lamOf st3
noncomputable abbrev posL' : List Pos := [lamP lam1, lamP lam2, lamP lam3]
noncomputable abbrev qL : Str := "law.<locals>.<lambda>"
section
variable {P : Program} {w : World} {K : PySem.W.Frag} {mg : Str → Option Value} {base : Heap} {f c T : Addr} {A : Around} {outer : List Env} {s : Shared} {H0 : Hp} {E : XK}
theorem ys1 : ∀ y ∈ (["_law_claim", "_law_claims_here"] : List Str), (lamS lam1).names.lookup y = some .free ∧ (defScope sLaw).names.lookup y = some .cell := by decide +kernel
theorem ys2 : ∀ y ∈ (["_law_claim", "_law_claims_here"] : List Str), (lamS lam2).names.lookup y = some .free ∧ (defScope sLaw).names.lookup y = some .cell := by decide +kernel
theorem ys3 : ∀ y ∈ (["_law_claims_here", "_law_one", "_law_other"] : List Str), (lamS lam3).names.lookup y = some .free ∧ (defScope sLaw).names.lookup y = some .cell := by decide +kernel
theorem lt1 (C : PySem.W.CodeHd base c T) (B : BMain mg base) : LamTN (XL P w K mg base f (.ref c) A outer s H0 E) c T qL posL' (lamA lam1 (defArgs sLaw)) (lamB lam1) (lamS lam1) (lamP lam1) ["_law_claim", "_law_claims_here"] where
 hs := rfl
 hf := rfl
 hfn := rfl
 hcode := rfl
 C := C
 bm := B
 hpos := List.mem_cons_self
 hap := by decide +kernel
 hq := by first | rfl | kernel_rfl
 hdef := rfl
 hbind := fun _ _ _ _ => rfl
 hco := rfl
 hgen := rfl
 hk := rfl
 hcell := by decide +kernel
 hfree := by decide +kernel
 hys := ys1
theorem lt2' (C : PySem.W.CodeHd base c T) (B : BMain mg base) : LamTN (XL P w K mg base f (.ref c) A outer s H0 E) c T qL posL' (lamA lam2 (defArgs sLaw)) (lamB lam2) (lamS lam2) (lamP lam2) ["_law_claim", "_law_claims_here"] where
 hs := rfl
 hf := rfl
 hfn := rfl
 hcode := rfl
 C := C
 bm := B
 hpos := List.mem_cons_of_mem _ List.mem_cons_self
 hap := by decide +kernel
 hq := by first | rfl | kernel_rfl
 hdef := rfl
 hbind := fun _ _ _ _ => rfl
 hco := rfl
 hgen := rfl
 hk := rfl
 hcell := by decide +kernel
 hfree := by decide +kernel
 hys := ys2
theorem lt3 (C : PySem.W.CodeHd base c T) (B : BMain mg base) : LamTN (XL P w K mg base f (.ref c) A outer s H0 E) c T qL posL' (lamA lam3 (defArgs sLaw)) (lamB lam3) (lamS lam3) (lamP lam3) ["_law_claims_here", "_law_one", "_law_other"] where
 hs := rfl
 hf := rfl
 hfn := rfl
 hcode := rfl
 C := C
 bm := B
 hpos := List.mem_cons_of_mem _ (List.mem_cons_of_mem _ List.mem_cons_self)
 hap := by decide +kernel
 hq := by first | rfl | kernel_rfl
 hdef := rfl
 hbind := fun _ _ _ _ => rfl
 hco := rfl
 hgen := rfl
 hk := rfl
 hcell := by decide +kernel
 hfree := by decide +kernel
 hys := ys3
end
end M03
namespace M03
open PySem L2 PyProof.Rows
structure Cls3 (K : PySem.W.Frag) (c : Nat → Addr) (cE : Addr) : Prop where
 w5 : ClsW K c cE (c 5) 5
 w6 : ClsW K c cE (c 6) 6
 w7 : ClsW K c cE (c 7) 7
 w8 : ClsW K c cE (c 8) 8
 w15 : ClsW K c cE (c 15) 15
 tm : TM K (c 15)
section
variable {P : Program} {w : World} {K : PySem.W.Frag} {mg : Str → Option Value} {base : Heap} {f c T : Addr} {A : Around} {outer : List Env} {s : Shared} {H0 : Hp} {E : XK}
theorem grow_tup {T : Addr} {H H1 : Hp} {ps : Array Value} (g : Grow T H H1) (hT : H T = some (.tbl ps)) {b : Addr} {xs : List V} (e : H b = some (.tup xs)) : H1 b = some (.tup xs) := g b _ (fun z => by rw [z, hT] at e; cases e) e
theorem grow_clT {T a : Addr} {H H1 : Hp} {ps : Array Value} {cl : List C3} (g : Grow T H H1) (hT : H T = some (.tbl ps)) (h : ClT H a cl) : ClT H1 a cl := by
 obtain ⟨bs, h1, h2⟩ := h
 exact ⟨bs, grow_tup g hT h1, Paired.mapP h2 fun _ _ e => grow_tup g hT e⟩
theorem same2 {H : Hp} {t t' : Addr} {x y : Str} (h1 : H t = some (.tup [.str x, .str y])) (h2 : H t' = some (.tup [.str x, .str y])) : SameV H 3 (.ref t) (.ref t') :=
 .inr ⟨t, t', _, _, rfl, rfl, .inr ⟨h1, h2⟩, by show 2 ≤ 1000; decide, .cons (SameV.str _ _) (.cons (SameV.str _ _) .nil)⟩
theorem same4 {H : Hp} {t t' : Addr} {x y : Str} {i j : Int} (h1 : H t = some (.tup [.str x, .str y, .int i, .int j])) (h2 : H t' = some (.tup [.str x, .str y, .int i, .int j])) : SameV H 3 (.ref t) (.ref t') :=
 .inr ⟨t, t', _, _, rfl, rfl, .inr ⟨h1, h2⟩, by show 4 ≤ 1000; decide, .cons (SameV.str _ _) (.cons (SameV.str _ _) (.cons (SameV.int _ _) (.cons (SameV.int _ _) .nil)))⟩
theorem sameT {H : Hp} {t t' a a' : Addr} {cl cl' : List C3} (h1 : H t = some (.tup [.str "told", .ref a])) (h2 : H t' = some (.tup [.str "told", .ref a'])) (ha : ClT H a cl) (ha' : ClT H a' cl') (g : ClOk cl) (g' : ClOk cl') (pm : cl.Perm cl') : SameV H 3 (.ref t) (.ref t') := by
 have e := clOk_eq g g' pm
 subst e
 exact .inr ⟨t, t', _, _, rfl, rfl, .inr ⟨h1, h2⟩, by show 2 ≤ 1000; decide, .cons (SameV.str _ _) (.cons (clT_same ha ha' g.l12 0) .nil)⟩
theorem law_laid {gC gS gL gM cE : Addr} {dC dS dL dM : FuncData} {cc : Nat → Addr} (hr : Room 8 (XL P w K mg base f (.ref c) A outer s H0 E).A) (C : PySem.W.CodeHd base c T) (B : BMain mg base) (Z : Cls3 K cc cE)
  (nC : mg "_law_came" = some (.ref gC)) (kC : PySem.W.keepIn K (.ref gC) = true) (bC : L2.Binds K dC ["_law_call"] []) (oC : FnOkS P w K mg base 8 gC dC ["_law_call"] (spCame P w K mg base cc cE))
  (aS : At P w K mg base 4 "_law_same" gS dS ["_law_told", "_law_due"] (spSame 3)) (aL : At P w K mg base 1 "_law_laid" gL dL ["_law_claims_here", "_law_claim"] spLaidL) (aM : AtD P w K mg base 6 "laid" gM dM ["claims", "claim"] (spLaid (cc 15) (cc 7))) :
  ∃ tt, PS (XL P w K mg base f (.ref c) A outer s H0 E) st1 tt ∧
  ∀ (D : Ends) (ps : Array Value) (o0 o1 o2 o3 o4 o5 o6 o9 o10 : Option V) (a b : Addr) (cl : List C3) (x : C3) (H : Hp), TabI H T ps qL posL' → ClT H a cl → ClOk cl → H b = some (tupC x) → NumOk x →
   (∀ ps' H1 H2, Grow T H H1 → Same H1 H2 → TabI H2 T ps' qL posL' → D.nx [o0, o1, o2, o3, o4, o5, o6, some (.ref b), some (.ref a), o9, o10] H2) → tt D [o0, o1, o2, o3, o4, o5, o6, some (.ref b), some (.ref a), o9, o10] H := by
 refine ⟨_, ps_if (pt_not (pt_val (pe_call aS.ok (hr.mono (by decide)) rfl aS.nm aS.kp aS.bd .nil pass0 (pa_k (pe_tellD oC hr rfl nC kC bC (lt1 C B)) (pa_k (pe_call aL.ok (hr.mono (by decide)) rfl aL.nm aL.kp aL.bd .nil pass0 (pa_v (pv 8) (pa_v (pv 7) pa_nil))) pa_nil))))) (pss_one (ps_ret pe_bl)) pss_nil, ?_⟩
 intro D ps o0 o1 o2 o3 o4 o5 o6 o9 o10 a b cl x H hT hA G hb hn hD
 refine ⟨ps, [.ref b, .ref a], hT, rfl, fun j y v e1 e2 => ?_, fun g ps' H1 h gr T1 R => ?_⟩
 ·match j with
  | 0 => cases e1; cases e2; exact ⟨7, rfl, rfl⟩
  | 1 => cases e1; cases e2; exact ⟨8, rfl, rfl⟩
  | j + 2 => cases e1
 obtain ⟨fa, hn', hfr, c', cls, run⟩ := R
 have hA1 := grow_clT gr hT.at' hA
 have hb1 := grow_tup gr hT.at' hb
 have key : ∀ Q : VK, (∀ t H2, Same H1 H2 → ((kin cl x = true ∧ H2 t = some (.tup [.str "no", .str "there"])) ∨ (kin cl x = false ∧ cl.length = 12 ∧ H2 t = some (.tup [.str "no", .str "many", .int 13, .int 12])) ∨
   (kin cl x = false ∧ cl.length < 12 ∧ ∃ a' cl', ClT H2 a' cl' ∧ ClOk cl' ∧ cl'.Perm (cl ++ [x]) ∧ H2 t = some (.tup [.str "told", .ref a']))) → Q (.ref t) H2) → spCame P w K mg base cc cE (XL P w K mg base f (.ref c) A outer s H0 E).stack [.ref g] H1 h Q := fun Q step => by
  refine ⟨g, fun v H' => ∃ a' cl', v = .ref a' ∧ Same H1 H' ∧ kin cl x = false ∧ cl.length < 12 ∧ ClT H' a' cl' ∧ ClOk cl' ∧ cl'.Perm (cl ++ [x]), rfl, fa, hn', hfr, fun A' outer' s' Q' E' hr' e0 keep hv hE => ?_, ?_⟩
  ·refine run A' outer' s' Q' E' 6 hr' e0 keep ⟨_, pe_call aM.ok (hr'.deeper _) rfl aM.nm aM.kp aM.bd .nil passLD (pa_v (pv 1) (pa_v (pv 0) pa_nil)), ?_⟩
   refine ⟨_, rfl, _, rfl, a, b, cl, x, rfl, hA1, G, hb1, hn, fun hk H' s' => hE _ _ _ ⟨cc 7, 7, rfl, Z.w7, .inr ⟨by decide, fun t H2 s2 ht => step t H2 (s'.trans s2) (.inl ⟨hk, ht⟩)⟩⟩,
    fun hk h12 d H' s' hd => hE _ _ _ ⟨cc 15, 15, rfl, Z.w15, .inl ⟨rfl, Z.tm, d, 13, 12, rfl, hd, fun t H2 s2 ht => step t H2 (s'.trans s2) (.inr (.inl ⟨hk, h12, ht⟩))⟩⟩, fun hk h12 a' cl' H' s' hA' G' pm => hv _ _ ⟨a', cl', rfl, s', hk, h12, hA', G', pm⟩⟩
  ·rintro v H' ⟨a', cl', rfl, s', hk, h12, hA', G', pm⟩ t ht
   have s2 := same_upd (o := .tup [.str "told", .ref a']) ht
   exact step t _ (s'.trans s2) (.inr (.inr ⟨hk, h12, a', cl', hA'.ext s2.ext, G', pm, upd_same⟩))
 refine key _ fun t H2 s2 hc => ?_
 have hA2 := hA1.ext s2.ext
 refine ⟨_, rfl, _, rfl, a, b, cl, x, rfl, hA2, G, s2 _ _ hb1, hn, fun hk t' H3 s3 ht' => ?_, fun hk h12 t' H3 s3 ht' => ?_, fun hk h12 a2 cl2 t' H3 s3 hA3 G3 pm3 ht' => ?_⟩
 ·rcases hc with ⟨_, e⟩ | ⟨e, _⟩ | ⟨e, _⟩
  ·exact ⟨.ref t, .ref t', rfl, same2 (s3 _ _ e) ht', fun H4 s4 => ⟨_, rfl, iteF (hD ps' H1 H4 gr ((s2.trans s3).trans s4) (T1.same ((s2.trans s3).trans s4)))⟩⟩
  ·rw [hk] at e; cases e
  ·rw [hk] at e; cases e
 ·rcases hc with ⟨e, _⟩ | ⟨_, _, e⟩ | ⟨_, e, _⟩
  ·rw [hk] at e; cases e
  ·exact ⟨.ref t, .ref t', rfl, same4 (s3 _ _ e) ht', fun H4 s4 => ⟨_, rfl, iteF (hD ps' H1 H4 gr ((s2.trans s3).trans s4) (T1.same ((s2.trans s3).trans s4)))⟩⟩
  ·omega
 ·rcases hc with ⟨e, _⟩ | ⟨_, e, _⟩ | ⟨_, _, a', cl', hA', G', pm, ht⟩
  ·rw [hk] at e; cases e
  ·omega
  ·exact ⟨.ref t, .ref t', rfl, sameT (s3 _ _ ht) ht' (hA'.ext s3.ext) hA3 G' G3 (pm.trans pm3.symm), fun H4 s4 => ⟨_, rfl, iteF (hD ps' H1 H4 gr ((s2.trans s3).trans s4) (T1.same ((s2.trans s3).trans s4)))⟩⟩
end
end M03
namespace M03
open PySem L2 PyProof.Rows
section
variable {P : Program} {w : World} {K : PySem.W.Frag} {mg : Str → Option Value} {base : Heap} {f c T : Addr} {A : Around} {outer : List Env} {s : Shared} {H0 : Hp} {E : XK}
theorem sameF {H : Hp} {t t' a a' : Addr} {cl : List C3} (h1 : H t = some (.tup [.str "told", .ref a])) (h2 : H t' = some (.tup [.str "told", .ref a'])) (ha : ClT H a cl) (ha' : ClT H a' cl) (hz : cl.length ≤ 12) : SameV H 3 (.ref t) (.ref t') :=
 .inr ⟨t, t', _, _, rfl, rfl, .inr ⟨h1, h2⟩, by show 2 ≤ 1000; decide, .cons (SameV.str _ _) (.cons (clT_same ha ha' hz 0) .nil)⟩
theorem law_denied {gC gS gL gM cE : Addr} {dC dS dL dM : FuncData} {cc : Nat → Addr} (hr : Room 8 (XL P w K mg base f (.ref c) A outer s H0 E).A) (C : PySem.W.CodeHd base c T) (B : BMain mg base) (Z : Cls3 K cc cE)
  (nC : mg "_law_came" = some (.ref gC)) (kC : PySem.W.keepIn K (.ref gC) = true) (bC : L2.Binds K dC ["_law_call"] []) (oC : FnOkS P w K mg base 8 gC dC ["_law_call"] (spCame P w K mg base cc cE))
  (aS : At P w K mg base 4 "_law_same" gS dS ["_law_told", "_law_due"] (spSame 3)) (aL : At P w K mg base 1 "_law_denied" gL dL ["_law_claims_here", "_law_claim"] spDeniedL) (aM : AtD P w K mg base 6 "denied" gM dM ["claims", "claim"] (spDenied (cc 8) (cc 5))) :
  ∃ tt, PS (XL P w K mg base f (.ref c) A outer s H0 E) st2 tt ∧
  ∀ (D : Ends) (ps : Array Value) (o0 o1 o2 o3 o4 o5 o6 o9 o10 : Option V) (a b : Addr) (cl : List C3) (x : C3) (H : Hp), TabI H T ps qL posL' → ClT H a cl → ClOk cl → H b = some (tupC x) → NumOk x →
   (∀ ps' H1 H2, Grow T H H1 → Same H1 H2 → TabI H2 T ps' qL posL' → D.nx [o0, o1, o2, o3, o4, o5, o6, some (.ref b), some (.ref a), o9, o10] H2) → tt D [o0, o1, o2, o3, o4, o5, o6, some (.ref b), some (.ref a), o9, o10] H := by
 refine ⟨_, ps_if (pt_not (pt_val (pe_call aS.ok (hr.mono (by decide)) rfl aS.nm aS.kp aS.bd .nil pass0 (pa_k (pe_tellD oC hr rfl nC kC bC (lt2' C B)) (pa_k (pe_call aL.ok (hr.mono (by decide)) rfl aL.nm aL.kp aL.bd .nil pass0 (pa_v (pv 8) (pa_v (pv 7) pa_nil))) pa_nil))))) (pss_one (ps_ret pe_bl)) pss_nil, ?_⟩
 intro D ps o0 o1 o2 o3 o4 o5 o6 o9 o10 a b cl x H hT hA G hb hn hD
 refine ⟨ps, [.ref b, .ref a], hT, rfl, fun j y v e1 e2 => ?_, fun g ps' H1 h gr T1 R => ?_⟩
 ·match j with
  | 0 => cases e1; cases e2; exact ⟨7, rfl, rfl⟩
  | 1 => cases e1; cases e2; exact ⟨8, rfl, rfl⟩
  | j + 2 => cases e1
 obtain ⟨fa, hn', hfr, c', cls, run⟩ := R
 have hA1 := grow_clT gr hT.at' hA
 have hb1 := grow_tup gr hT.at' hb
 have key : ∀ Q : VK, (∀ t H2, Same H1 H2 → ((x ∉ cl ∧ H2 t = some (.tup [.str "no", .str "missing"])) ∨ (x ∈ cl ∧ cl.length = 1 ∧ H2 t = some (.tup [.str "no", .str "claims"])) ∨
   (x ∈ cl ∧ 2 ≤ cl.length ∧ ∃ a', ClT H2 a' (cl.filter fun y => decide (y ≠ x)) ∧ H2 t = some (.tup [.str "told", .ref a']))) → Q (.ref t) H2) → spCame P w K mg base cc cE (XL P w K mg base f (.ref c) A outer s H0 E).stack [.ref g] H1 h Q := fun Q step => by
  refine ⟨g, fun v H' => ∃ a', v = .ref a' ∧ Same H1 H' ∧ x ∈ cl ∧ 2 ≤ cl.length ∧ ClT H' a' (cl.filter fun y => decide (y ≠ x)), rfl, fa, hn', hfr, fun A' outer' s' Q' E' hr' e0 keep hv hE => ?_, ?_⟩
  ·refine run A' outer' s' Q' E' 6 hr' e0 keep ⟨_, pe_call aM.ok (hr'.deeper _) rfl aM.nm aM.kp aM.bd .nil passLD (pa_v (pv 1) (pa_v (pv 0) pa_nil)), ?_⟩
   refine ⟨_, rfl, _, rfl, a, b, cl, x, rfl, hA1, G, hb1, hn, fun hk H' s' => hE _ _ _ ⟨cc 8, 8, rfl, Z.w8, .inr ⟨by decide, fun t H2 s2 ht => step t H2 (s'.trans s2) (.inl ⟨hk, ht⟩)⟩⟩,
    fun hk h1 H' s' => hE _ _ _ ⟨cc 5, 5, rfl, Z.w5, .inr ⟨by decide, fun t H2 s2 ht => step t H2 (s'.trans s2) (.inr (.inl ⟨hk, h1, ht⟩))⟩⟩, fun hk h2 a' H' s' hA' => hv _ _ ⟨a', rfl, s', hk, h2, hA'⟩⟩
  ·rintro v H' ⟨a', rfl, s', hk, h2, hA'⟩ t ht
   have s2 := same_upd (o := .tup [.str "told", .ref a']) ht
   exact step t _ (s'.trans s2) (.inr (.inr ⟨hk, h2, a', hA'.ext s2.ext, upd_same⟩))
 refine key _ fun t H2 s2 hc => ?_
 have hA2 := hA1.ext s2.ext
 refine ⟨_, rfl, _, rfl, a, b, cl, x, rfl, hA2, G, s2 _ _ hb1, hn, fun hk t' H3 s3 ht' => ?_, fun hk h1 t' H3 s3 ht' => ?_, fun hk h2 a2 t' H3 s3 hA3 ht' => ?_⟩
 ·rcases hc with ⟨_, e⟩ | ⟨e, _⟩ | ⟨e, _⟩
  ·exact ⟨.ref t, .ref t', rfl, same2 (s3 _ _ e) ht', fun H4 s4 => ⟨_, rfl, iteF (hD ps' H1 H4 gr ((s2.trans s3).trans s4) (T1.same ((s2.trans s3).trans s4)))⟩⟩
  ·exact absurd e hk
  ·exact absurd e hk
 ·rcases hc with ⟨e, _⟩ | ⟨_, _, e⟩ | ⟨_, e, _⟩
  ·exact absurd hk e
  ·exact ⟨.ref t, .ref t', rfl, same2 (s3 _ _ e) ht', fun H4 s4 => ⟨_, rfl, iteF (hD ps' H1 H4 gr ((s2.trans s3).trans s4) (T1.same ((s2.trans s3).trans s4)))⟩⟩
  ·omega
 ·rcases hc with ⟨e, _⟩ | ⟨_, e, _⟩ | ⟨_, _, a', hA', ht⟩
  ·exact absurd hk e
  ·omega
  ·exact ⟨.ref t, .ref t', rfl, sameF (s3 _ _ ht) ht' (hA'.ext s3.ext) hA3 (Nat.le_trans (List.length_filter_le _ _) G.l12), fun H4 s4 => ⟨_, rfl, iteF (hD ps' H1 H4 gr ((s2.trans s3).trans s4) (T1.same ((s2.trans s3).trans s4)))⟩⟩
theorem law_joined {gC gS gL gM cE : Addr} {dC dS dL dM : FuncData} {cc : Nat → Addr} (hr : Room 8 (XL P w K mg base f (.ref c) A outer s H0 E).A) (C : PySem.W.CodeHd base c T) (B : BMain mg base) (Z : Cls3 K cc cE)
  (nC : mg "_law_came" = some (.ref gC)) (kC : PySem.W.keepIn K (.ref gC) = true) (bC : L2.Binds K dC ["_law_call"] []) (oC : FnOkS P w K mg base 8 gC dC ["_law_call"] (spCame P w K mg base cc cE))
  (aS : At P w K mg base 4 "_law_same" gS dS ["_law_told", "_law_due"] (spSame 3)) (aL : At P w K mg base 2 "_law_joined" gL dL ["_law_claims_here", "_law_one", "_law_other"] spJoinedL) (aM : AtD P w K mg base 6 "joined" gM dM ["claims", "one", "other"] (spJoined (cc 15) (cc 6))) :
  ∃ tt, PS (XL P w K mg base f (.ref c) A outer s H0 E) st3 tt ∧
  ∀ (D : Ends) (ps : Array Value) (o0 o1 o2 o3 o4 o5 o6 o7 : Option V) (a : Addr) (i j : Int) (cl : List C3) (H : Hp), TabI H T ps qL posL' → ClT H a cl → ClOk cl →
   (∀ ps' H1 H2, Grow T H H1 → Same H1 H2 → TabI H2 T ps' qL posL' → D.nx [o0, o1, o2, o3, o4, o5, o6, o7, some (.ref a), some (.int i), some (.int j)] H2) → tt D [o0, o1, o2, o3, o4, o5, o6, o7, some (.ref a), some (.int i), some (.int j)] H := by
 refine ⟨_, ps_if (pt_not (pt_val (pe_call aS.ok (hr.mono (by decide)) rfl aS.nm aS.kp aS.bd .nil pass0 (pa_k (pe_tellD oC hr rfl nC kC bC (lt3 C B)) (pa_k (pe_call aL.ok (hr.mono (by decide)) rfl aL.nm aL.kp aL.bd .nil pass0 (pa_v (pv 8) (pa_v (pv 9) (pa_v (pv 10) pa_nil)))) pa_nil))))) (pss_one (ps_ret pe_bl)) pss_nil, ?_⟩
 intro D ps o0 o1 o2 o3 o4 o5 o6 o7 a i j cl H hT hA G hD
 refine ⟨ps, [.ref a, .int i, .int j], hT, rfl, fun n y v e1 e2 => ?_, fun g ps' H1 h gr T1 R => ?_⟩
 ·match n with
  | 0 => cases e1; cases e2; exact ⟨8, rfl, rfl⟩
  | 1 => cases e1; cases e2; exact ⟨9, rfl, rfl⟩
  | 2 => cases e1; cases e2; exact ⟨10, rfl, rfl⟩
  | n + 3 => cases e1
 obtain ⟨fa, hn', hfr, c', cls, run⟩ := R
 have hA1 := grow_clT gr hT.at' hA
 have key : ∀ Q : VK, (∀ t H2, Same H1 H2 → ((twoH cl i j = false ∧ H2 t = some (.tup [.str "no", .str "holder"])) ∨ (twoH cl i j = true ∧ ∃ k, k < 6 ∧ (∀ r : Nat, r < k → rt cl i j (r : Int) ≤ 20) ∧ 20 < rt cl i j (k : Int) ∧ H2 t = some (.tup [.str "no", .str "many", .int (rt cl i j (k : Int)), .int 20])) ∨
   (twoH cl i j = true ∧ (∀ r : Nat, r < 6 → rt cl i j (r : Int) ≤ 20) ∧ ∃ a' cl', ClT H2 a' cl' ∧ ClOk cl' ∧ cl'.Perm (joinL cl i j) ∧ H2 t = some (.tup [.str "told", .ref a']))) → Q (.ref t) H2) → spCame P w K mg base cc cE (XL P w K mg base f (.ref c) A outer s H0 E).stack [.ref g] H1 h Q := fun Q step => by
  refine ⟨g, fun v H' => ∃ a' cl', v = .ref a' ∧ Same H1 H' ∧ twoH cl i j = true ∧ (∀ r : Nat, r < 6 → rt cl i j (r : Int) ≤ 20) ∧ ClT H' a' cl' ∧ ClOk cl' ∧ cl'.Perm (joinL cl i j), rfl, fa, hn', hfr, fun A' outer' s' Q' E' hr' e0 keep hv hE => ?_, ?_⟩
  ·refine run A' outer' s' Q' E' 6 hr' e0 keep ⟨_, pe_call aM.ok (hr'.deeper _) rfl aM.nm aM.kp aM.bd .nil passLD (pa_v (pv 0) (pa_v (pv 1) (pa_v (pv 2) pa_nil))), ?_⟩
   refine ⟨_, rfl, _, rfl, _, rfl, a, i, j, cl, rfl, hA1, G, fun hk H' s' => hE _ _ _ ⟨cc 6, 6, rfl, Z.w6, .inr ⟨by decide, fun t H2 s2 ht => step t H2 (s'.trans s2) (.inl ⟨hk, ht⟩)⟩⟩,
    fun hk d H' k s' hk6 hlo hhi hd => hE _ _ _ ⟨cc 15, 15, rfl, Z.w15, .inl ⟨rfl, Z.tm, d, _, 20, rfl, hd, fun t H2 s2 ht => step t H2 (s'.trans s2) (.inr (.inl ⟨hk, k, hk6, hlo, hhi, ht⟩))⟩⟩, fun hk h20 a' cl' H' s' hA' G' pm => hv _ _ ⟨a', cl', rfl, s', hk, h20, hA', G', pm⟩⟩
  ·rintro v H' ⟨a', cl', rfl, s', hk, h20, hA', G', pm⟩ t ht
   have s2 := same_upd (o := .tup [.str "told", .ref a']) ht
   exact step t _ (s'.trans s2) (.inr (.inr ⟨hk, h20, a', cl', hA'.ext s2.ext, G', pm, upd_same⟩))
 refine key _ fun t H2 s2 hc => ?_
 have hA2 := hA1.ext s2.ext
 refine ⟨_, rfl, _, rfl, _, rfl, a, i, j, cl, rfl, hA2, G, fun hk t' H3 s3 ht' => ?_, fun hk k hk6 hlo hhi t' H3 s3 ht' => ?_, fun hk h20 a2 cl2 t' H3 s3 hA3 G3 pm3 ht' => ?_⟩
 ·rcases hc with ⟨_, e⟩ | ⟨e, _⟩ | ⟨e, _⟩
  ·exact ⟨.ref t, .ref t', rfl, same2 (s3 _ _ e) ht', fun H4 s4 => ⟨_, rfl, iteF (hD ps' H1 H4 gr ((s2.trans s3).trans s4) (T1.same ((s2.trans s3).trans s4)))⟩⟩
  ·rw [hk] at e; cases e
  ·rw [hk] at e; cases e
 ·rcases hc with ⟨e, _⟩ | ⟨_, k', hk6', hlo', hhi', e⟩ | ⟨_, h20, _⟩
  ·rw [hk] at e; cases e
  ·have ek : k' = k := by
    rcases Nat.lt_trichotomy k' k with z | z | z
    ·have := hlo k' z; omega
    ·exact z
    ·have := hlo' k z; omega
   subst ek
   exact ⟨.ref t, .ref t', rfl, same4 (s3 _ _ e) ht', fun H4 s4 => ⟨_, rfl, iteF (hD ps' H1 H4 gr ((s2.trans s3).trans s4) (T1.same ((s2.trans s3).trans s4)))⟩⟩
  ·have := h20 k hk6; omega
 ·rcases hc with ⟨e, _⟩ | ⟨_, k', hk6', hlo', hhi', e⟩ | ⟨_, _, a', cl', hA', G', pm, ht⟩
  ·rw [hk] at e; cases e
  ·have := h20 k' hk6'; omega
  ·exact ⟨.ref t, .ref t', rfl, sameT (s3 _ _ ht) ht' (hA'.ext s3.ext) hA3 G' G3 (pm.trans pm3.symm), fun H4 s4 => ⟨_, rfl, iteF (hD ps' H1 H4 gr ((s2.trans s3).trans s4) (T1.same ((s2.trans s3).trans s4)))⟩⟩
end
end M03
namespace M03
open PySem L2 PyProof.Rows
theorem Grow.refl' {T : Addr} {H : Hp} : Grow T H H := fun _ _ _ e => e
theorem Grow.tr {T : Addr} {H H1 H2 : Hp} (a : Grow T H H1) (b : Grow T H1 H2) : Grow T H H2 := fun x u n e => b x u n (a x u n e)
theorem Grow.sm {T : Addr} {H H1 : Hp} (a : Same H H1) : Grow T H H1 := fun x u _ e => a x u e
section
variable {P : Program} {w : World} {K : PySem.W.Frag} {mg : Str → Option Value} {base : Heap} {f c T : Addr} {A : Around} {outer : List Env} {s : Shared} {H0 : Hp} {E : XK}
theorem law_s4 {gC gS gL gM gL2 gM2 cE : Addr} {dC dS dL dM dL2 dM2 : FuncData} {cc : Nat → Addr} (hr : Room 8 (XL P w K mg base f (.ref c) A outer s H0 E).A) (C : PySem.W.CodeHd base c T) (B : BMain mg base) (Z : Cls3 K cc cE)
  (nC : mg "_law_came" = some (.ref gC)) (kC : PySem.W.keepIn K (.ref gC) = true) (bC : L2.Binds K dC ["_law_call"] []) (oC : FnOkS P w K mg base 8 gC dC ["_law_call"] (spCame P w K mg base cc cE))
  (aS : At P w K mg base 4 "_law_same" gS dS ["_law_told", "_law_due"] (spSame 3)) (aL : At P w K mg base 1 "_law_laid" gL dL ["_law_claims_here", "_law_claim"] spLaidL) (aM : AtD P w K mg base 6 "laid" gM dM ["claims", "claim"] (spLaid (cc 15) (cc 7)))
  (aL2 : At P w K mg base 1 "_law_denied" gL2 dL2 ["_law_claims_here", "_law_claim"] spDeniedL) (aM2 : AtD P w K mg base 6 "denied" gM2 dM2 ["claims", "claim"] (spDenied (cc 8) (cc 5))) :
  ∃ tt, PS (XL P w K mg base f (.ref c) A outer s H0 E) (lawFor.getD 4 (.Pass ⟨0, 0, 0, 0⟩)) tt ∧
  ∀ (D : Ends) (ps : Array Value) (o0 o1 o2 o3 o6 o7 o9 o10 : Option V) (a b d : Addr) (cl : List C3) (x y : C3) (H : Hp), TabI H T ps qL posL' → ClT H a cl → ClOk cl → H b = some (tupC x) → NumOk x → H d = some (tupC y) → NumOk y →
   (∀ o7 ps' H', Grow T H H' → TabI H' T ps' qL posL' → D.nx [o0, o1, o2, o3, some (.ref b), some (.ref d), o6, o7, some (.ref a), o9, o10] H') → tt D [o0, o1, o2, o3, some (.ref b), some (.ref d), o6, o7, some (.ref a), o9, o10] H := by
 have nd := scLaw.nd
 obtain ⟨t1, h1, k1⟩ := law_laid (P := P) (w := w) (K := K) (mg := mg) (base := base) (f := f) (c := c) (T := T) (A := A) (outer := outer) (s := s) (H0 := H0) (E := E) hr C B Z nC kC bC oC aS aL aM
 obtain ⟨t2, h2, k2⟩ := law_denied (P := P) (w := w) (K := K) (mg := mg) (base := base) (f := f) (c := c) (T := T) (A := A) (outer := outer) (s := s) (H0 := H0) (E := E) hr C B Z nC kC bC oC aS aL2 aM2
 have hb : ∃ tt, PSs (XL P w K mg base f (.ref c) A outer s H0 E) (forBody (lawFor.getD 4 (.Pass ⟨0, 0, 0, 0⟩))) tt ∧ tt = tSeq t1 t2 := by
  have e : forBody (lawFor.getD 4 (.Pass ⟨0, 0, 0, 0⟩)) = [st1, st2] := rfl
  rw [e]
  generalize st1 = q1 at h1 ⊢
  generalize st2 = q2 at h2 ⊢
  exact ⟨_, pss_cons h1 (pss_one h2), rfl⟩
 obtain ⟨tb, hb, rfl⟩ := hb
 refine ⟨_, ps_for PassesOwn.never rfl (pi_list (pe_lst (pa_v (pv 4) (pa_v (pv 5) (pa_b (pe_op op_catU (pe_slice sl_tupU (pv 4) po_none (po_some pe_int)) (pe_tup (pa_b (pe_op op_add (pe_op op_mod (pe_ix ix_tup (pv 4) pe_int (fun _ _ => rfl)) pe_int) pe_int) pa_nil))) pa_nil))))) (pg_name (i := 7) nd rfl (Or.inr rfl)) hb, ?_⟩
 intro D ps o0 o1 o2 o3 o6 o7 o9 o10 a b d cl x y H hT hA G hb' hx hd hy hD
 refine ⟨_, rfl, _, rfl, ?_⟩
 refine ⟨_, rfl, _, rfl, b, _, rfl, hb', fun p1 H1 s1 hp1 => ?_⟩
 refine ⟨_, rfl, b, _, 2, .int x.2.2, rfl, rfl, SqT.of (s1 _ _ hb'), atI_nat (j := 2) rfl, _, _, rfl, rfl, (by decide : (0 : Int) < 20), _, _, rfl, rfl, by show 1 ≤ sizeLine; decide, fun t ht => ?_⟩
 have s2 := same_upd (o := .tup [.int (x.2.2 % 20 + 1)]) ht
 refine ⟨p1, t, _, [.int (x.2.2 % 20 + 1)], rfl, rfl, s2 _ _ hp1, upd_same, by show 2 + 1 ≤ sizeLine; decide, fun u H3 s3 hu3 => ?_⟩
 refine ⟨by show 3 ≤ sizeLine; decide, fun l hl => ⟨l, rfl, ⟨_, SqL.of upd_same⟩, ?_⟩⟩
 have s4 := same_upd (o := .lst [.ref b, .ref d, .ref u]) hl
 have sA := ((s1.trans s2).trans s3).trans s4
 have hu4 : (upd H3 l (.lst [.ref b, .ref d, .ref u])) u = some (tupC (x.1, x.2.1, x.2.2 % 20 + 1)) := s4 _ _ hu3
 have hl4 : (upd H3 l (.lst [.ref b, .ref d, .ref u])) l = some (.lst [.ref b, .ref d, .ref u]) := upd_same
 have T4 := hT.same sA
 have A4 := hA.ext sA.ext
 have b4 := sA _ _ hb'
 have d4 := sA _ _ hd
 have g4 : Grow T H (upd H3 l (.lst [.ref b, .ref d, .ref u])) := Grow.sm sA
 generalize upd H3 l (.lst [.ref b, .ref d, .ref u]) = H4 at *
 have all3 : ∀ v ∈ ([.ref b, .ref d, .ref u] : List V), ∃ e z, v = .ref e ∧ H4 e = some (tupC z) ∧ NumOk z := fun v hv => by
  simp only [List.mem_cons, List.not_mem_nil, or_false] at hv
  rcases hv with rfl | rfl | rfl
  ·exact ⟨b, x, rfl, b4, hx⟩
  ·exact ⟨d, y, rfl, d4, hy⟩
  ·exact ⟨u, _, rfl, hu4, hx.1, hx.2.1, by show 1 ≤ x.2.2 % 20 + 1; omega, by show x.2.2 % 20 + 1 ≤ 20; omega⟩
 have lT : l ≠ T := fun z => by have := T4.at'; rw [← z, hl4] at this; cases this
 refine for_list (K := K) (a := l) (xs := [.ref b, .ref d, .ref u]) (fun i σ H' => (∃ o7, σ = [o0, o1, o2, o3, some (.ref b), some (.ref d), o6, o7, some (.ref a), o9, o10]) ∧ Grow T H4 H' ∧ ∃ ps', TabI H' T ps' qL posL') ⟨⟨_, rfl⟩, Grow.refl', _, T4⟩ (fun i σ H' _ h => SqL.of (h.2.1 _ _ lT hl4)) ?_ ?_
 ·rintro i v σ H' hv ⟨⟨o7, rfl⟩, g, ps', T'⟩
  obtain ⟨e, z, rfl, he, hz⟩ := all3 v (List.mem_of_getElem? hv)
  refine k1 _ ps' _ _ _ _ _ _ _ _ _ a e cl z H' T' (grow_clT g T4.at' A4) G (grow_tup g T4.at' he) hz fun ps2 H5 H6 g5 s6 T6 => ?_
  have g6 := Grow.tr g (Grow.tr g5 (Grow.sm s6))
  refine k2 _ ps2 _ _ _ _ _ _ _ _ _ a e cl z H6 T6 (grow_clT g6 T4.at' A4) G (grow_tup g6 T4.at' he) hz fun ps3 H7 H8 g7 s8 T8 => ?_
  exact ⟨⟨_, rfl⟩, Grow.tr g6 (Grow.tr g7 (Grow.sm s8)), _, T8⟩
 ·rintro σ H' ⟨⟨o7, rfl⟩, g, ps', T'⟩
  exact hD o7 ps' H' (Grow.tr g4 g) T'
end
end M03
namespace L2
open PySem PySem.Spec PyProof.Rows
mutual
noncomputable def RdA (H : Hp) : PyData → V → Prop
 | .none, v => v = .non
 | .bool b, v => v = .bl b
 | .int i, v => v = .int i
 | .str x, v => v = .str x
 | .list ds, v => ∃ a xs, v = .ref a ∧ H a = some (.lst xs) ∧ RdAs H ds xs
 | .tuple ds, v => ∃ a xs, v = .ref a ∧ H a = some (.tup xs) ∧ RdAs H ds xs
 | .dict kvs, v => ∃ a ks, v = .ref a ∧ H a = some (.dK ks) ∧ RdKv H kvs ks
noncomputable def RdAs (H : Hp) : List PyData → List V → Prop
 | [], xs => xs = []
 | d :: ds, xs => ∃ y ys, xs = y :: ys ∧ RdA H d y ∧ RdAs H ds ys
noncomputable def RdKv (H : Hp) : List (PyData × PyData) → List (Key × V) → Prop
 | [], xs => xs = []
 | (k, d) :: r, xs => ∃ j y ys, xs = (j, y) :: ys ∧ RdA H k (kV j) ∧ RdA H d y ∧ RdKv H r ys
end
mutual
noncomputable def hasL : PyData → Bool
 | .none | .bool _ | .int _ | .str _ => false
 | .list _ => true
 | .tuple xs => hasLAll xs
 | .dict kvs => hasLKv kvs
noncomputable def hasLAll : List PyData → Bool
 | [] => false
 | x :: xs => hasL x || hasLAll xs
noncomputable def hasLKv : List (PyData × PyData) → Bool
 | [] => false
 | (k, v) :: r => hasL k || hasL v || hasLKv r
end
section
variable {P : Program} {w : World} {H : Hp} {h : Heap}
theorem kv_vals : ∀ {ks : List (Key × V)} {vs : List (Key × Value)} {es : List DictEntry}, KV ks vs → Pairs (mixKind P w) es vs → Paired (fun (p : Key × V) (e : DictEntry) => RelV (kV p.1) e.key ∧ RelV p.2 e.val) ks es
 | [], _, _, .nil, .nil => .nil
 | _ :: _, _, _, .cons r t, .cons p q s => by
  refine .cons ⟨?_, ?_⟩ (kv_vals t s)
  ·rw [r.1]
   rcases keyIs_shape p with ⟨i, t', e1, e2⟩ | ⟨x, t', e1, e2⟩
   ·rw [e1, e2]; exact ⟨t', rfl⟩
   ·rw [e1, e2]; exact ⟨t', rfl⟩
  ·rw [q]; exact r.2
mutual
theorem reads_of (ok : HOk P w H h) : ∀ (d : PyData) (v : V) (u : Value), RdA H d v → RelV v u → ∃ as, Reads h u d as ∧ (hasL d = false → sysModules ∉ as)
 | .none, _, _, e, r => by
  simp only [RdA] at e; subst e
  cases (show _ = Value.none from r)
  exact ⟨[], .none, fun _ => by simp⟩
 | .bool b, _, _, e, r => by
  simp only [RdA] at e; subst e
  cases (show _ = Value.bool b from r)
  exact ⟨[], .bool b, fun _ => by simp⟩
 | .int i, _, _, e, r => by
  simp only [RdA] at e; subst e
  obtain ⟨t, rfl⟩ := (show ∃ t, _ = Value.int i t from r)
  exact ⟨[], .int i t, fun _ => by simp⟩
 | .str x, _, _, e, r => by
  simp only [RdA] at e; subst e
  obtain ⟨t, rfl⟩ := (show ∃ t, _ = Value.str x t from r)
  exact ⟨[], .str x t, fun _ => by simp⟩
 | .list ds, _, _, e, r => by
  simp only [RdA] at e
  obtain ⟨a, xs, rfl, ha, hx⟩ := e
  cases (show _ = Value.ref a from r)
  obtain ⟨_, its, n, rv, ho⟩ := (show ObjOk P w H h a (.lst xs) from ok _ _ ha)
  obtain ⟨as, h1, h2⟩ := readsAll_of ok ds xs its hx rv
  exact ⟨a :: as, .list ho rfl rfl h1, fun z => by simp [hasL] at z⟩
 | .tuple ds, _, _, e, r => by
  simp only [RdA] at e
  obtain ⟨a, xs, rfl, ha, hx⟩ := e
  cases (show _ = Value.ref a from r)
  obtain ⟨_, its, rv, o, ho, hc, n, hd⟩ := (show ObjOk P w H h a (.tup xs) from ok _ _ ha)
  obtain ⟨as, h1, h2⟩ := readsAll_of ok ds xs its hx rv
  exact ⟨as, .tuple ho hc hd h1, fun z => h2 (by simpa only [hasL] using z)⟩
 | .dict kvs, _, _, e, r => by
  simp only [RdA] at e
  obtain ⟨a, ks, rfl, ha, hx⟩ := e
  cases (show _ = Value.ref a from r)
  obtain ⟨_, hs, vs, hk, o, es, ep, ho, hex, hd, _, hp, _⟩ := (show ObjOk P w H h a (.dK ks) from ok _ _ ha)
  obtain ⟨as, bs, h1, h2, h3⟩ := readsKv_of ok kvs ks es.toList hx (kv_vals hk hp)
  refine ⟨a :: as ++ bs, .dict ho hex.1 hd h1 h2, fun z => ?_⟩
  obtain ⟨z1, z2⟩ := h3 (by simpa only [hasL] using z)
  rw [List.cons_append, List.mem_cons, List.mem_append]
  rintro (q | q | q)
  ·rw [← q] at hs; simp at hs
  ·exact z1 q
  ·exact z2 q
theorem readsAll_of (ok : HOk P w H h) : ∀ (ds : List PyData) (xs : List V) (us : List Value), RdAs H ds xs → Vals xs us → ∃ as, ReadsAll h us ds as ∧ (hasLAll ds = false → sysModules ∉ as)
 | [], _, _, e, r => by
  simp only [RdAs] at e; subst e
  cases r
  exact ⟨[], .nil, fun _ => by simp⟩
 | d :: ds, _, _, e, r => by
  simp only [RdAs] at e
  obtain ⟨y, ys, rfl, h1, h2⟩ := e
  cases r with
  | cons r1 r2 =>
   obtain ⟨as, g1, g2⟩ := reads_of ok d y _ h1 r1
   obtain ⟨bs, g3, g4⟩ := readsAll_of ok ds ys _ h2 r2
   refine ⟨as ++ bs, .cons g1 g3, fun z => ?_⟩
   simp only [hasLAll, Bool.or_eq_false_iff] at z
   rw [List.mem_append]
   rintro (q | q)
   ·exact g2 z.1 q
   ·exact g4 z.2 q
theorem readsKv_of (ok : HOk P w H h) : ∀ (ds : List (PyData × PyData)) (xs : List (Key × V)) (es : List DictEntry), RdKv H ds xs → Paired (fun (p : Key × V) (e : DictEntry) => RelV (kV p.1) e.key ∧ RelV p.2 e.val) xs es →
  ∃ as bs, ReadsAll h (es.map (·.key)) (ds.map (·.1)) as ∧ ReadsAll h (es.map (·.val)) (ds.map (·.2)) bs ∧ (hasLKv ds = false → sysModules ∉ as ∧ sysModules ∉ bs)
 | [], _, _, e, r => by
  simp only [RdKv] at e; subst e
  cases r
  exact ⟨[], [], .nil, .nil, fun _ => by simp⟩
 | (k, d) :: ds, _, _, e, r => by
  simp only [RdKv] at e
  obtain ⟨j, y, ys, rfl, h0, h1, h2⟩ := e
  cases r with
  | cons r1 r2 =>
   obtain ⟨as, g1, g2⟩ := reads_of ok k _ _ h0 r1.1
   obtain ⟨bs, g3, g4⟩ := reads_of ok d y _ h1 r1.2
   obtain ⟨as', bs', g5, g6, g7⟩ := readsKv_of ok ds ys _ h2 r2
   refine ⟨as ++ as', bs ++ bs', .cons g1 g5, .cons g3 g6, fun z => ?_⟩
   simp only [hasLKv, Bool.or_eq_false_iff] at z
   obtain ⟨q1, q2⟩ := g7 z.2
   constructor
   ·rw [List.mem_append]
    rintro (q | q)
    ·exact g2 z.1.1 q
    ·exact q1 q
   ·rw [List.mem_append]
    rintro (q | q)
    ·exact g4 z.1.2 q
    ·exact q2 q
end
end
mutual
noncomputable def lnOk : PyData → Bool
 | .none | .bool _ | .int _ | .str _ | .dict _ => true
 | .list xs => lnOkAll xs
 | .tuple xs => decide (xs.length ≤ 1000) && lnOkAll xs
noncomputable def lnOkAll : List PyData → Bool
 | [] => true
 | x :: xs => lnOk x && lnOkAll xs
end
structure Gd (n D : Nat) (d : PyData) : Prop where
 sh : d.showable = true
 lv : d.leavesShort 64 = true
 wt : d.weight ≤ n
 dp : d.depth ≤ D
 ln : lnOk d = true
theorem Gd.mono {n m D E : Nat} {d : PyData} (g : Gd n D d) (h : n ≤ m) (h2 : D ≤ E) : Gd m E d := ⟨g.sh, g.lv, Nat.le_trans g.wt h, Nat.le_trans g.dp h2, g.ln⟩
theorem Gd.all {n D : Nat} : ∀ {ds : List PyData}, (∀ d ∈ ds, Gd n D d) → PyData.showableAll ds = true ∧ PyData.leavesShortAll 64 ds = true ∧ PyData.weightAll ds ≤ ds.length * (n + 1) ∧ PyData.depthAll ds ≤ D ∧ lnOkAll ds = true
 | [], _ => ⟨rfl, rfl, by simp [PyData.weightAll], by simp [PyData.depthAll], rfl⟩
 | d :: ds, h => by
  obtain ⟨h1, h2, h3, h4, h5⟩ := Gd.all fun d' hd' => h d' (List.mem_cons_of_mem _ hd')
  have g := h d List.mem_cons_self
  refine ⟨by simp only [PyData.showableAll, g.sh, h1, Bool.and_self], by simp only [PyData.leavesShortAll, g.lv, h2, Bool.and_self], ?_, ?_, by simp only [lnOkAll, g.ln, h5, Bool.and_self]⟩
  ·have := g.wt
   simp only [PyData.weightAll, List.length_cons, Nat.succ_mul]; omega
  ·have := g.dp
   simp only [PyData.depthAll]; omega
theorem Gd.fits {n D : Nat} {d : PyData} (g : Gd n D d) (hn : n ≤ 100000) : d.shown.length ≤ sizeLine := by
 have h := PyData.shown_le 64 (by decide) d g.lv
 have := g.wt
 have h2 : (64 + 2) * d.weight ≤ 66 * 100000 := Nat.mul_le_mul (by decide) (by omega)
 rw [sizeLine_eq]; omega
structure Shw (d : PyData) : Prop where
 gd : Gd 100000 40 d
 dl : d.hasDict = true → hasL d = false
section
variable {X : Cx}
theorem call_reprD (hg : X.A.guards = some []) (hu : X.A.units + 64 < cLine) : CallR X (.builtin "repr") (fun xs H Q => ∃ v d, xs = [v] ∧ RdA H d v ∧ Shw d ∧ Q (.str d.shown) H) := by
 intro pins s σ H xs us Q I r h
 obtain ⟨v, d, rfl, hr, hS, q⟩ := h
 obtain ⟨u, rfl, rx⟩ := vals1 r
 have hfit := hS.gd.fits (Nat.le_refl _)
 have hdp := hS.gd.dp
 have ref : ∀ a, v = .ref a → wpAny (model X.prog X.w) X.A (call (.builtin "repr") [u]) (EP X pins σ Q) X.xe s := fun a e => by
  subst e
  cases (show _ = Value.ref a from rx)
  obtain ⟨as, g1, g2⟩ := reads_of I.hok d _ _ hr rx
  refine repr_of_reads' g1 hS.gd.sh (fun z => g2 (hS.dl z)) hg (by omega) (fun _ _ e => e) (fun h' u' tk hk => ?_) hfit
  exact ⟨.str d.shown, H, I.kept hk, ⟨u', rfl⟩, q⟩
 cases d with
 | none =>
  simp only [RdA] at hr; subst hr
  cases (show _ = Value.none from rx)
  exact PySem.P.repr_of_none ⟨.str "None", H, I.tok _, ⟨_, rfl⟩, q⟩
 | bool b =>
  simp only [RdA] at hr; subst hr
  cases (show _ = Value.bool b from rx)
  refine PySem.P.repr_of_bool ⟨_, H, I.tok _, ?_, q⟩
  cases b <;> exact ⟨_, rfl⟩
 | int i =>
  simp only [RdA] at hr; subst hr
  obtain ⟨t, rfl⟩ := (show ∃ t, _ = Value.int i t from rx)
  exact PySem.P.repr_of_int (by simpa only [PyData.showable, decide_eq_true_eq] using hS.gd.sh) ⟨.str (PyData.shown (.int i)), H, I.tok _, ⟨_, rfl⟩, q⟩
 | str x =>
  simp only [RdA] at hr; subst hr
  obtain ⟨t, rfl⟩ := (show ∃ t, _ = Value.str x t from rx)
  refine PySem.P.repr_of_str ⟨.str (PyData.shown (.str x)), H, I.tok _, ⟨_, rfl⟩, q⟩ ?_
  simpa only [PyData.shown] using hfit
 | list ds =>
  simp only [RdA] at hr
  exact ref _ hr.choose_spec.choose_spec.1
 | tuple ds =>
  simp only [RdA] at hr
  exact ref _ hr.choose_spec.choose_spec.1
 | dict kvs =>
  simp only [RdA] at hr
  exact ref _ hr.choose_spec.choose_spec.1
end
end L2
namespace L2
open PySem PySem.Spec PyProof.Rows
theorem Gd.atom {n D : Nat} {d : PyData} (h1 : d.showable = true) (h2 : d.leavesShort 64 = true) (h3 : d.weight ≤ n) (h4 : d.depth = 0) (h5 : lnOk d = true := by simp only [lnOk]) : Gd n D d := ⟨h1, h2, h3, by omega, h5⟩
theorem Gd.tup {n D : Nat} {ds : List PyData} {m : Nat} (h : ∀ d ∈ ds, Gd n D d) (hm : ds.length ≤ m) (hk : m ≤ 1000) : Gd (m * (n + 1)) (D + 1) (.tuple ds) := by
 obtain ⟨h1, h2, h3, h4, h5⟩ := Gd.all h
 refine ⟨by simp only [PyData.showable]; exact h1, by simp only [PyData.leavesShort]; exact h2, ?_, by simp only [PyData.depth]; omega, by simp only [lnOk, h5, Bool.and_true, decide_eq_true_eq]; omega⟩
 simp only [PyData.weight]
 exact Nat.le_trans h3 (Nat.mul_le_mul_right _ hm)
end L2
namespace M03
open PySem L2 PyProof.Rows
noncomputable def Kpt (p T : Addr) (H H' : Hp) : Prop := ∀ b u, b ≠ p → b ≠ T → H b = some u → H' b = some u
theorem Kpt.tr {p T : Addr} {H H1 H2 : Hp} (a : Kpt p T H H1) (b : Kpt p T H1 H2) : Kpt p T H H2 := fun x u n m e => b x u n m (a x u n m e)
theorem Kpt.gr {p T : Addr} {H H1 : Hp} (a : Grow T H H1) : Kpt p T H H1 := fun x u _ m e => a x u m e
theorem Kpt.st {p T : Addr} {H H1 : Hp} (a : Stp p H H1) : Kpt p T H H1 := fun x u n _ e => a.keep x u n e
theorem Kpt.tup {p T : Addr} {H H1 : Hp} {ps : Array Value} (k : Kpt p T H H1) (hp : PenAt H p) (hT : H T = some (.tbl ps)) {b : Addr} {xs : List V} (e : H b = some (.tup xs)) : H1 b = some (.tup xs) :=
 k b _ (PenAt.ne hp e (fun xs z => by cases z)) (fun z => by rw [z, hT] at e; cases e) e
theorem Kpt.clT {p T a : Addr} {H H1 : Hp} {ps : Array Value} {cl : List C3} (k : Kpt p T H H1) (hp : PenAt H p) (hT : H T = some (.tbl ps)) (h : ClT H a cl) : ClT H1 a cl := by
 obtain ⟨bs, h1, h2⟩ := h
 exact ⟨bs, k.tup hp hT h1, Paired.mapP h2 fun _ _ e => k.tup hp hT e⟩
theorem pen_gr {p T : Addr} {H H1 : Hp} {ps : Array Value} (g : Grow T H H1) (hT : H T = some (.tbl ps)) (hp : PenAt H p) : PenAt H1 p := by
 obtain ⟨x, y, e⟩ := hp
 exact ⟨x, y, g p _ (fun z => by rw [z, hT] at e; cases e) e⟩
section
variable {P : Program} {w : World} {K : PySem.W.Frag} {mg : Str → Option Value} {base : Heap} {f c T : Addr} {A : Around} {outer : List Env} {s : Shared} {H0 : Hp} {E : XK}
theorem law_s5 {gC gS gL gM gD cE : Addr} {dC dS dL dM dD : FuncData} {cc : Nat → Addr} (TX : Txt mg) (hr : Room 8 (XL P w K mg base f (.ref c) A outer s H0 E).A) (C : PySem.W.CodeHd base c T) (B : BMain mg base) (Z : Cls3 K cc cE)
  (nC : mg "_law_came" = some (.ref gC)) (kC : PySem.W.keepIn K (.ref gC) = true) (bC : L2.Binds K dC ["_law_call"] []) (oC : FnOkS P w K mg base 8 gC dC ["_law_call"] (spCame P w K mg base cc cE))
  (aS : At P w K mg base 4 "_law_same" gS dS ["_law_told", "_law_due"] (spSame 3)) (aL : At P w K mg base 2 "_law_joined" gL dL ["_law_claims_here", "_law_one", "_law_other"] spJoinedL) (aM : AtD P w K mg base 6 "joined" gM dM ["claims", "one", "other"] (spJoined (cc 15) (cc 6))) (aD : At P w K mg base 1 "_law_draw" gD dD ["_law_pen_here", "_law_bound"] spDraw) :
  ∃ tt, PS (XL P w K mg base f (.ref c) A outer s H0 E) (lawFor.getD 5 (.Pass ⟨0, 0, 0, 0⟩)) tt ∧
  ∀ (D : Ends) (ps : Array Value) (o0 o1 o3 o4 o5 o6 o7 o9 o10 : Option V) (p a : Addr) (cl : List C3) (H : Hp), TabI H T ps qL posL' → PenAt H p → ClT H a cl → ClOk cl →
   (∀ o6 o9 o10 ps' H', Kpt p T H H' → PenAt H' p → TabI H' T ps' qL posL' → D.nx [o0, o1, some (.ref p), o3, o4, o5, o6, o7, some (.ref a), o9, o10] H') → tt D [o0, o1, some (.ref p), o3, o4, o5, o6, o7, some (.ref a), o9, o10] H := by
 have nd := scLaw.nd
 have r1 : Room 1 (XL P w K mg base f (.ref c) A outer s H0 E).A := hr.mono (by decide)
 obtain ⟨t1, h1, k1⟩ := law_joined (P := P) (w := w) (K := K) (mg := mg) (base := base) (f := f) (c := c) (T := T) (A := A) (outer := outer) (s := s) (H0 := H0) (E := E) hr C B Z nC kC bC oC aS aL aM
 have hb : ∃ t0, PSs (XL P w K mg base f (.ref c) A outer s H0 E) (forBody (lawFor.getD 5 (.Pass ⟨0, 0, 0, 0⟩))) (tSeq t0 t1) ∧ ∀ (D : Ends) (o0 o1 o3 o4 o5 o6 o7 o8 o9 o10 : Option V) (p : Addr) (H : Hp), PenAt H p → (∀ i j H', Stp p H H' → D.nx [o0, o1, some (.ref p), o3, o4, o5, o6, o7, o8, some (.int i), some (.int j)] H') → t0 D [o0, o1, some (.ref p), o3, o4, o5, o6, o7, o8, o9, o10] H := by
  have e : forBody (lawFor.getD 5 (.Pass ⟨0, 0, 0, 0⟩)) = [(forBody (lawFor.getD 5 (.Pass ⟨0, 0, 0, 0⟩))).getD 0 (.Pass ⟨0, 0, 0, 0⟩), st3] := rfl
  rw [e]
  generalize st3 = q1 at h1 ⊢
  refine ⟨_, pss_cons (ps_asg (pe_tup (pa_k (pe_call aD.ok r1 rfl aD.nm aD.kp aD.bd .nil pass0 (pa_v (pv 2) (pa_c pe_int pa_nil))) (pa_k (pe_call aD.ok r1 rfl aD.nm aD.kp aD.bd .nil pass0 (pa_v (pv 2) (pa_c pe_int pa_nil))) pa_nil))) (pg_tup rfl (pgs_cons (pg_name (i := 9) nd rfl (Or.inr rfl)) (pgs_cons (pg_name (i := 10) nd rfl (Or.inr rfl)) pgs_nil)))) (pss_one h1), ?_⟩
  intro D o0 o1 o3 o4 o5 o6 o7 o8 o9 o10 p H hp hD
  refine ⟨_, rfl, p, 4, rfl, hp, by decide, by decide, fun i H1 _ _ s1 => ?_⟩
  refine ⟨_, rfl, p, 4, rfl, s1.pen, by decide, by decide, fun j H2 _ _ s2 => ?_⟩
  refine ⟨by show 2 ≤ sizeLine; decide, fun t ht => ?_⟩
  exact ⟨t, _, rfl, SqT.of upd_same, rfl, _, _, rfl, _, _, rfl, rfl, hD i j _ ((s1.trans s2).same (same_upd ht))⟩
 obtain ⟨t0, hb, k0⟩ := hb
 refine ⟨_, ps_for PassesOwn.never rfl (pi_range1 rfl TX.range (pa_c pe_int pa_nil)) (pg_name (i := 6) nd rfl (Or.inl rfl)) hb, ?_⟩
 intro D ps o0 o1 o3 o4 o5 o6 o7 o9 o10 p a cl H hT hp hA G hD
 refine ⟨4, rfl, by decide, by decide, ?_⟩
 refine for_range (lo := 0) (n := 4) (fun i σ H' => (∃ o6 o9 o10, σ = [o0, o1, some (.ref p), o3, o4, o5, o6, o7, some (.ref a), o9, o10]) ∧ Kpt p T H H' ∧ PenAt H' p ∧ ∃ ps', TabI H' T ps' qL posL') ⟨⟨_, _, _, rfl⟩, (fun _ _ _ _ e => e), hp, _, hT⟩ ?_ ?_
 ·rintro i σ H' hi ⟨⟨o6, o9, o10, rfl⟩, kp, hp', ps', T'⟩
  refine k0 _ _ _ _ _ _ _ _ _ _ _ p H' hp' fun x y H1 s1 => ?_
  have T1 := T'.stp hp' s1
  have kp1 := kp.tr (Kpt.st s1)
  refine k1 _ ps' _ _ _ _ _ _ _ _ a x y cl H1 T1 (kp1.clT hp hT.at' hA) G fun ps2 H2 H3 g2 s3 T3 => ?_
  have g3 := Grow.tr g2 (Grow.sm s3)
  exact ⟨⟨_, _, _, rfl⟩, kp1.tr (Kpt.gr g3), pen_gr g3 T1.at' s1.pen, _, T3⟩
 ·rintro σ H' ⟨⟨o6, o9, o10, rfl⟩, kp, hp', ps', T'⟩
  exact hD o6 o9 o10 ps' H' kp hp' T'
end
end M03
namespace M03
open PySem L2 PyProof.Rows
noncomputable def dC (c : C3) : PyData := .tuple [.int c.1, .int c.2.1, .int c.2.2]
noncomputable def dCl (cl : List C3) : PyData := .tuple (cl.map dC)
theorem rd_one {H : Hp} {b : Addr} {c : C3} (h : H b = some (tupC c)) : RdA H (dC c) (.ref b) := by
 unfold dC
 simp only [RdA, RdAs]
 exact ⟨b, _, rfl, h, _, _, rfl, rfl, _, _, rfl, rfl, _, _, rfl, rfl, rfl⟩
theorem rd_all {H : Hp} : ∀ {bs : List Addr} {cl : List C3}, ClP H bs cl → RdAs H (cl.map dC) (bs.map V.ref)
 | _, _, .nil => by simp only [List.map_nil, RdAs]
 | _, _, .cons r t => by
  simp only [List.map_cons, RdAs]
  exact ⟨_, _, rfl, rd_one r, rd_all t⟩
theorem rd_cl {H : Hp} {a : Addr} {cl : List C3} (h : ClT H a cl) : RdA H (dCl cl) (.ref a) := by
 obtain ⟨bs, h1, h2⟩ := h
 unfold dCl
 simp only [RdA]
 exact ⟨a, _, rfl, h1, rd_all h2⟩
theorem gd_k1 : ∀ k : Nat, k < 21 → decide ((PyData.shown (.int (k : Int))).length ≤ 64) = true := by decide +kernel
theorem gd_k2 : ∀ k : Nat, k < 21 → (PyData.int (k : Int)).showable = true := fun k hk => by
 simp only [PyData.showable, decide_eq_true_eq]
 revert k
 decide +kernel
theorem gd_k3 : ∀ k : Nat, k < 21 → (if k = 0 then 0 else k.log2 + 1) ≤ 5 := by decide +kernel
theorem gd_int {i : Int} (h0 : 0 ≤ i) (h1 : i ≤ 20) : Gd 5 0 (.int i) := by
 obtain ⟨n, rfl⟩ := Int.eq_ofNat_of_zero_le h0
 exact Gd.atom (gd_k2 n (by omega)) (by simp only [PyData.leavesShort]; exact gd_k1 n (by omega)) (by simp [PyData.weight]; exact gd_k3 n (by omega)) (by simp only [PyData.depth])
theorem shw_cl {cl : List C3} (G : ClOk cl) : Shw (dCl cl) := by
 have g1 : ∀ d ∈ cl.map dC, Gd 18 1 d := fun d hd => by
  obtain ⟨c, hc, rfl⟩ := List.mem_map.mp hd
  have hn := G.num c hc
  unfold dC
  refine Gd.tup (m := 3) (n := 5) (D := 0) (fun d hd => ?_) (by show 3 ≤ 3; decide) (by decide)
  simp only [List.mem_cons, List.not_mem_nil, or_false] at hd
  rcases hd with rfl | rfl | rfl
  ·exact gd_int (by omega) (by omega)
  ·exact gd_int (by omega) (by omega)
  ·exact gd_int (by omega) (by omega)
 have g2 := Gd.tup (m := 12) g1 (by rw [List.length_map]; exact G.l12) (by decide)
 refine ⟨g2.mono (by decide) (by decide), fun h => ?_⟩
 unfold dCl at h ⊢
 simp only [hasL]
 clear g1 g2 h G
 induction cl with
 | nil => rfl
 | cons c cl ih => simp only [List.map_cons, hasLAll, dC, hasL, Bool.or_false, ih]
end M03
namespace M03
open PySem L2 PyProof.Rows
theorem clT_stp {p a : Addr} {H H1 : Hp} {cl : List C3} (hp : PenAt H p) (s : Stp p H H1) (h : ClT H a cl) : ClT H1 a cl := h.ext (Stp.ext hp s)
theorem ok123 : ClOk [((1, 2, 3) : C3)] := ⟨by decide, by decide, fun c hc => by rw [List.mem_singleton.mp hc]; decide, by simp⟩
section
variable {P : Program} {w : World} {K : PySem.W.Frag} {mg : Str → Option Value} {base : Heap} {f : Addr} {cdv : Value} {A : Around} {outer : List Env} {s : Shared} {H0 : Hp} {E : XK}
theorem law_s1 {gP gC gF : Addr} {dP dC' dF : FuncData} (hr : Room 8 (XL P w K mg base f cdv A outer s H0 E).A) (aP : At P w K mg base 2 "_law_pick" gP dP ["_law_pen_here", "_law_things"] spPick)
  (aC : At P w K mg base 3 "_law_claims" gC dC' ["_law_pen_here", "_law_custom", "_law_holders_here"] spClaimsL) (aF : At P w K mg base 3 "_law_full" gF dF ["_law_pen_here"] spFull) :
  ∃ tt, PS (XL P w K mg base f cdv A outer s H0 E) (lawFor.getD 1 (.Pass ⟨0, 0, 0, 0⟩)) tt ∧
  ∀ (D : Ends) (o0 o1 o3 o4 o5 o6 o7 o8 o9 o10 : Option V) (p : Addr) (H : Hp), PenAt H p →
   (∀ a cl H', Stp p H H' → ClT H' a cl → ClOk cl → D.nx [o0, o1, some (.ref p), o3, o4, o5, o6, o7, some (.ref a), o9, o10] H') → tt D [o0, o1, some (.ref p), o3, o4, o5, o6, o7, o8, o9, o10] H := by
 have nd := scLaw.nd
 have r2 : Room 2 (XL P w K mg base f cdv A outer s H0 E).A := hr.mono (by decide)
 have r3 : Room 3 (XL P w K mg base f cdv A outer s H0 E).A := hr.mono (by decide)
 refine ⟨_, ps_set (i := 8) nd rfl (Or.inr rfl) (pe_call aP.ok r2 rfl aP.nm aP.kp aP.bd .nil pass0 (pa_v (pv 2) (pa_l (pe_lst (pa_k (pe_call aC.ok r3 rfl aC.nm aC.kp aC.bd .nil pass0 (pa_v (pv 2) (pa_b (pe_op op_repU (pe_tup (pa_c pe_int pa_nil)) pe_int) (pa_l (pe_lst (pa_c pe_int (pa_c pe_int (pa_c pe_int (pa_c pe_int pa_nil))))) pa_nil))))
  (pa_k (pe_call aF.ok r3 rfl aF.nm aF.kp aF.bd .nil pass0 (pa_v (pv 2) pa_nil)) (pa_t (pe_tup (pa_t (pe_tup (pa_c pe_int (pa_c pe_int (pa_c pe_int pa_nil)))) pa_nil)) pa_nil)))) pa_nil))), ?_⟩
 intro D o0 o1 o3 o4 o5 o6 o7 o8 o9 o10 p H hp hD
 have st0 := Stp.refl hp
 refine ⟨_, rfl, _, rfl, by show 1 ≤ sizeLine; decide, fun t ht => ?_⟩
 have s1 := same_upd (o := .tup [.int 1]) ht
 refine ⟨t, 6, [.int 1], rfl, rfl, upd_same, by decide, by decide, by decide, fun u H2 s2 hu => ?_⟩
 refine ⟨by show 4 ≤ sizeLine; decide, fun l hl => ?_⟩
 have s3 := same_upd (o := .lst [.int 0, .int 1, .int 2, .int 3]) hl
 have stA := st0.same ((s1.trans s2).trans s3)
 have nl := (st0.same (s1.trans s2)).none hl
 refine ⟨p, u, l, [1, 1, 1, 1, 1, 1], [0, 1, 2, 3], rfl, stA.pen, s3 _ _ hu, ⟨by decide, by decide, by decide⟩, nl.2, upd_same, ⟨by decide, by decide, by decide⟩, fun a1 cl1 H4 st4 hA1 G1 _ => ?_⟩
 have stB := stA.trans st4
 refine ⟨_, rfl, p, rfl, stB.pen, fun a2 cl2 H5 st5 hA2 G2 => ?_⟩
 have stC := stB.trans st5
 refine ⟨by show 3 ≤ sizeLine; decide, fun t3 ht3 => ?_⟩
 have s6 := same_upd (o := .tup [.int 1, .int 2, .int 3]) ht3
 refine ⟨by show 1 ≤ sizeLine; decide, fun t4 ht4 => ?_⟩
 have s7 := same_upd (o := .tup [.ref t3]) ht4
 refine ⟨by show 3 ≤ sizeLine; decide, fun l2 hl2 => ?_⟩
 have s8 := same_upd (o := .lst [.ref a1, .ref a2, .ref t4]) hl2
 have s68 := (s6.trans s7).trans s8
 have n2 := (stC.same (s6.trans s7)).none hl2
 have stD := stC.same s68
 refine ⟨p, l2, _, rfl, stD.pen, n2.2, upd_same, by show 1 ≤ 3; decide, by show 3 ≤ 1000; decide, fun v H9 hv st9 => ?_⟩
 have stE := stD.trans st9
 simp only [List.mem_cons, List.not_mem_nil, or_false] at hv
 rcases hv with rfl | rfl | rfl
 ·exact hD a1 cl1 H9 stE (clT_stp stD.pen st9 ((clT_stp stB.pen st5 hA1).ext s68.ext)) G1
 ·exact hD a2 cl2 H9 stE (clT_stp stD.pen st9 (hA2.ext s68.ext)) G2
 ·exact hD t4 _ H9 stE (clT_stp stD.pen st9 ⟨[t3], s8 _ _ upd_same, .cons (s8 _ _ (s7 _ _ upd_same)) .nil⟩) ok123
end
end M03
namespace M03
open PySem L2 PyProof.Rows
section
variable {P : Program} {w : World} {K : PySem.W.Frag} {mg : Str → Option Value} {base : Heap}
structure Calls (P : Program) (w : World) (K : PySem.W.Frag) (mg : Str → Option Value) (base : Heap) (cc : Nat → Addr) (cE : Addr) : Prop where
 cl : Cls3 K cc cE
 cell : ∃ g d, At P w K mg base 1 "_law_cell" g d ["_law_script", "_law_k"] (spCell K)
 pen : ∃ g d, At P w K mg base 1 "_law_pen" g d ["_law_cell_here"] spPen
 draw : ∃ g d, At P w K mg base 1 "_law_draw" g d ["_law_pen_here", "_law_bound"] spDraw
 pick : ∃ g d, At P w K mg base 2 "_law_pick" g d ["_law_pen_here", "_law_things"] spPick
 pickT : ∃ g d, At P w K mg base 2 "_law_pick" g d ["_law_pen_here", "_law_things"] spPickT
 claims : ∃ g d, At P w K mg base 3 "_law_claims" g d ["_law_pen_here", "_law_custom", "_law_holders_here"] spClaimsL
 full : ∃ g d, At P w K mg base 3 "_law_full" g d ["_law_pen_here"] spFull
 same : ∃ g d, At P w K mg base 4 "_law_same" g d ["_law_told", "_law_due"] (spSame 3)
 laidL : ∃ g d, At P w K mg base 1 "_law_laid" g d ["_law_claims_here", "_law_claim"] spLaidL
 deniedL : ∃ g d, At P w K mg base 1 "_law_denied" g d ["_law_claims_here", "_law_claim"] spDeniedL
 joinedL : ∃ g d, At P w K mg base 2 "_law_joined" g d ["_law_claims_here", "_law_one", "_law_other"] spJoinedL
 laid : ∃ g d, AtD P w K mg base 6 "laid" g d ["claims", "claim"] (spLaid (cc 15) (cc 7))
 denied : ∃ g d, AtD P w K mg base 6 "denied" g d ["claims", "claim"] (spDenied (cc 8) (cc 5))
 joined : ∃ g d, AtD P w K mg base 6 "joined" g d ["claims", "one", "other"] (spJoined (cc 15) (cc 6))
 came : ∃ g d, mg "_law_came" = some (.ref g) ∧ PySem.W.keepIn K (.ref g) = true ∧ L2.Binds K d ["_law_call"] [] ∧ FnOkS P w K mg base 8 g d ["_law_call"] (spCame P w K mg base cc cE)
variable {f c T : Addr} {A : Around} {outer : List Env} {s : Shared} {H0 : Hp} {E : XK} {cc : Nat → Addr} {cE : Addr}
theorem clT_mem {H : Hp} : ∀ {bs : List Addr} {cl : List C3}, ClP H bs cl → ∀ v ∈ bs.map V.ref, ∃ b x, v = .ref b ∧ x ∈ cl ∧ H b = some (tupC x)
 | _, _, .nil, v, h => by cases h
 | _, _, .cons r t, v, h => by
  rcases List.mem_cons.mp h with e | e
  ·exact ⟨_, _, e, List.mem_cons_self, r⟩
  ·obtain ⟨b, x, e1, e2, e3⟩ := clT_mem t v e
   exact ⟨b, x, e1, List.mem_cons_of_mem _ e2, e3⟩
theorem law_0 (TX : Txt mg) (hr : Room 8 (XL P w K mg base f (.ref c) A outer s H0 E).A) (C : PySem.W.CodeHd base c T) (B : BMain mg base) (L : Calls P w K mg base cc cE) : ∃ tt, PSs (XL P w K mg base f (.ref c) A outer s H0 E) lawFor tt ∧
  ∀ (D : Ends) (o0 o2 o3 o4 o5 o6 o7 o8 o9 o10 : Option V) (i : Int) (ps : Array Value) (H : Hp), TabI H T ps qL posL' →
   (∀ o2 o3 o4 o5 o6 o7 o8 o9 o10 ps' H', Grow T H H' → TabI H' T ps' qL posL' → D.nx [o0, some (.int i), o2, o3, o4, o5, o6, o7, o8, o9, o10] H') → tt D [o0, some (.int i), o2, o3, o4, o5, o6, o7, o8, o9, o10] H := by
 have nd := scLaw.nd
 have r1 : Room 1 (XL P w K mg base f (.ref c) A outer s H0 E).A := hr.mono (by decide)
 have r2 : Room 2 (XL P w K mg base f (.ref c) A outer s H0 E).A := hr.mono (by decide)
 have hg := hr.gd
 have hu := hr.units
 obtain ⟨gE, dE, aE⟩ := L.pen
 obtain ⟨gD, dD, aD⟩ := L.draw
 obtain ⟨_, _, aP⟩ := L.pick
 obtain ⟨gT, dT, aT⟩ := L.pickT
 obtain ⟨_, _, aC⟩ := L.claims
 obtain ⟨_, _, aF⟩ := L.full
 obtain ⟨_, _, aS⟩ := L.same
 obtain ⟨_, _, b1⟩ := L.laidL
 obtain ⟨_, _, b2⟩ := L.deniedL
 obtain ⟨_, _, b3⟩ := L.joinedL
 obtain ⟨_, _, b4⟩ := L.laid
 obtain ⟨_, _, b5⟩ := L.denied
 obtain ⟨_, _, b6⟩ := L.joined
 obtain ⟨gN, dN, nN, kN, bN, oN⟩ := L.came
 obtain ⟨t1, h1, k1⟩ := law_s1 (P := P) (w := w) (K := K) (mg := mg) (base := base) (f := f) (cdv := .ref c) (A := A) (outer := outer) (s := s) (H0 := H0) (E := E) hr aP aC aF
 obtain ⟨t4, h4, k4⟩ := law_s4 (P := P) (w := w) (K := K) (mg := mg) (base := base) (f := f) (c := c) (T := T) (A := A) (outer := outer) (s := s) (H0 := H0) (E := E) hr C B L.cl nN kN bN oN aS b1 b4 b2 b5
 obtain ⟨t5, h5, k5⟩ := law_s5 (P := P) (w := w) (K := K) (mg := mg) (base := base) (f := f) (c := c) (T := T) (A := A) (outer := outer) (s := s) (H0 := H0) (E := E) TX hr C B L.cl nN kN bN oN aS b3 b6 aD
 have e : lawFor = [lawFor.getD 0 (.Pass ⟨0, 0, 0, 0⟩), lawFor.getD 1 (.Pass ⟨0, 0, 0, 0⟩), lawFor.getD 2 (.Pass ⟨0, 0, 0, 0⟩), lawFor.getD 3 (.Pass ⟨0, 0, 0, 0⟩), lawFor.getD 4 (.Pass ⟨0, 0, 0, 0⟩), lawFor.getD 5 (.Pass ⟨0, 0, 0, 0⟩), lawFor.getD 6 (.Pass ⟨0, 0, 0, 0⟩)] := rfl
 rw [e]
 generalize lawFor.getD 1 (.Pass ⟨0, 0, 0, 0⟩) = q1 at h1 ⊢
 generalize lawFor.getD 4 (.Pass ⟨0, 0, 0, 0⟩) = q4 at h4 ⊢
 generalize lawFor.getD 5 (.Pass ⟨0, 0, 0, 0⟩) = q5 at h5 ⊢
 refine ⟨_, pss_cons (ps_set (i := 2) nd rfl (Or.inl rfl) (pe_call aE.ok r1 rfl aE.nm aE.kp aE.bd .nil pass0 (pa_v (pv 1) pa_nil))) <|
  pss_cons h1 <|
  pss_cons (ps_par (i := 3) (j := 4) rfl nd rfl rfl (by decide) rfl rfl (pa_k (pe_callB (call_reprD hg hu) rfl TX.repr boot_repr (pa_v (pv 8) pa_nil)) (pa_k (pe_call aT.ok r2 rfl aT.nm aT.kp aT.bd .nil pass0 (pa_v (pv 2) (pa_v (pv 8) pa_nil))) pa_nil)) rfl) <|
  pss_cons (ps_set (i := 5) nd rfl (Or.inl rfl) (pe_tup (pa_k (pe_call aD.ok r1 rfl aD.nm aD.kp aD.bd .nil pass0 (pa_v (pv 2) (pa_c pe_int pa_nil))) (pa_k (pe_call aD.ok r1 rfl aD.nm aD.kp aD.bd .nil pass0 (pa_v (pv 2) (pa_c pe_int pa_nil))) (pa_b (pe_op op_add pe_int (pe_call aD.ok r1 rfl aD.nm aD.kp aD.bd .nil pass0 (pa_v (pv 2) (pa_c pe_int pa_nil)))) pa_nil))))) <|
  pss_cons h4 <| pss_cons h5 <|
  pss_one (ps_if (pt_cmpR op_ne (pe_callB (call_reprD hg hu) rfl TX.repr boot_repr (pa_v (pv 8) pa_nil)) (pv 3) (nomark _)) (pss_one (ps_ret pe_bl)) pss_nil), ?_⟩
 intro D o0 o2 o3 o4 o5 o6 o7 o8 o9 o10 i ps H hT hD
 refine ⟨_, rfl, i, rfl, fun p H1 hp0 s1 pn1 => ?_⟩
 refine k1 _ _ _ _ _ _ _ _ _ _ _ p H1 pn1 fun a cl H2 st2 hA2 G => ?_
 have T2 := (hT.same s1).stp pn1 st2
 obtain ⟨bs, ha, hC⟩ := id hA2
 have hl : bs.length = cl.length := Paired.length hC
 have hl1 := G.l1
 have hl12 := G.l12
 refine ⟨_, rfl, .ref a, dCl cl, rfl, rd_cl hA2, shw_cl G, ?_⟩
 refine ⟨_, rfl, _, rfl, p, a, _, rfl, st2.pen, ha, by rw [List.length_map]; omega, by rw [List.length_map]; omega, fun v H3 hv st3 => ?_⟩
 obtain ⟨b, x, rfl, hx, hb⟩ := clT_mem hC v hv
 refine ⟨_, _, rfl, ?_⟩
 have hb3 := st3.keep b _ (PenAt.ne st2.pen hb (fun xs z => by cases z)) hb
 have hA3 := clT_stp st2.pen st3 hA2
 have T3 := T2.stp st2.pen st3
 refine ⟨_, rfl, p, 4, rfl, st3.pen, by decide, by decide, fun y1 H4 a0 a1 st4 => ?_⟩
 refine ⟨_, rfl, p, 6, rfl, st4.pen, by decide, by decide, fun y2 H5 a2 a3 st5 => ?_⟩
 refine ⟨_, rfl, p, 20, rfl, st5.pen, by decide, by decide, fun y3 H6 a4 a5 st6 => ?_⟩
 refine ⟨_, _, rfl, rfl, by show 3 ≤ sizeLine; decide, fun d hd => ?_⟩
 have s7 := same_upd (o := .tup [.int y1, .int y2, .int (1 + y3)]) hd
 have st37 := ((st4.trans st5).trans st6).same s7
 refine k4 _ ps _ _ _ _ _ _ _ _ a b d cl x (y1, y2, 1 + y3) _ (T3.stp st3.pen st37) (clT_stp st3.pen st37 hA3) G (st37.keep b _ (PenAt.ne st3.pen hb3 (fun xs z => by cases z)) hb3) (G.num x hx) upd_same ⟨⟨a0, by show y1 ≤ 3; omega⟩, ⟨a2, by show y2 ≤ 5; omega⟩, by show 1 ≤ 1 + y3; omega, by show 1 + y3 ≤ 20; omega⟩ fun o7' ps8 H8 g8 T8 => ?_
 have T7 := T3.stp st3.pen st37
 have p8 := pen_gr g8 T7.at' st37.pen
 have hA8 := grow_clT g8 T7.at' (clT_stp st3.pen st37 hA3)
 refine k5 _ ps8 _ _ _ _ _ _ _ _ _ p a cl H8 T8 p8 hA8 G fun o6' o9' o10' ps9 H9 kp9 p9 T9 => ?_
 have hA9 := kp9.clT p8 T8.at' hA8
 refine ⟨_, rfl, .ref a, dCl cl, rfl, rd_cl hA9, shw_cl G, _, rfl, rfl, _, rfl, iteNS rfl ?_⟩
 refine hD _ _ _ _ _ _ _ _ _ ps9 H9 (fun z u nz ez => ?_) T9
 have zp : z ≠ p := fun y => by rw [y, hp0] at ez; cases ez
 exact kp9 z u zp nz (g8 z u nz (st37.keep z u zp (st3.keep z u zp (st2.keep z u zp (s1 z u ez)))))
end
end M03
namespace M03
open PySem L2 PyProof.Rows
noncomputable def spLaw (K : PySem.W.Frag) (T : Addr) : Sp := fun vs H Q _ => ∃ (a : Addr) (ns : List Int), vs = [.ref a] ∧ SqL K H a (ns.map V.int) ∧ H T = some (.tbl #[]) ∧ ns.length ≤ 63 ∧ ∀ H', Q (.bl true) H'
theorem cutV_mem {xs : List V} {lo hi : Option Int} {x : V} (h : x ∈ cutV xs lo hi) : x ∈ xs := List.mem_of_mem_drop (List.mem_of_mem_take h)
section
variable {P : Program} {w : World} {K : PySem.W.Frag} {mg : Str → Option Value} {base : Heap}
theorem ok_law {f c T cE : Addr} {cc : Nat → Addr} {fd : FuncData} (F : Fun K "law" "law" sLaw f fd) (hc : fd.code = .ref c) (TX : Txt mg) (C : PySem.W.CodeHd base c T) (B : BMain mg base) (L : Calls P w K mg base cc cE) : FnOk P w K mg base CX0 9 f fd ["_law_script"] (spLaw K T) := by
 refine F.okC scLaw hc (fun vs H Q E h => ?_) (fun A outer s H vs Q E hr h => ?_)
 ·obtain ⟨a, ns, rfl, _⟩ := h; rfl
 ·obtain ⟨a, ns, rfl, hS, hT, hlen, q⟩ := h
  have nd := scLaw.nd
  have r1 : Room 1 _ := hr.mono (by decide)
  obtain ⟨_, _, aC⟩ := L.cell
  obtain ⟨tb, hb, rb⟩ := law_0 (P := P) (w := w) (K := K) (mg := mg) (base := base) (f := f) (c := c) (T := T) (A := A) (outer := outer) (s := s) (H0 := H) (E := E) TX hr C B L
  refine ⟨_, pss_cons (ps_for PassesOwn.never rfl (pi_list (pe_op op_cat (pe_lst (pa_k (pe_call aC.ok r1 rfl aC.nm aC.kp aC.bd .nil pass0 (pa_v (pv 0) (pa_c pe_int pa_nil))) pa_nil)) (pe_slice sl_list (pv 0) (po_some pe_int) (po_some pe_int)))) (pg_name (i := 1) nd rfl (Or.inl rfl)) hb) <|
   pss_one (ps_ret pe_bl), ?_⟩
  refine ⟨_, rfl, a, ns, 0, rfl, hS, by decide, fun c0 => ?_⟩
  refine ⟨by show 1 ≤ sizeLine; decide, fun l0 hl0 => ?_⟩
  have s0 := same_upd (o := .lst [.int c0]) hl0
  refine ⟨_, rfl, _, rfl, _, rfl, a, _, rfl, s0.seq hS, fun l1 hl1 => ?_⟩
  have s1 := same_upd (o := .lst (cutV (ns.map V.int) (some 1) (some 4))) hl1
  have hcl := cutV_length (ns.map V.int) (some 1) (some 4)
  rw [List.length_map] at hcl
  refine ⟨l0, l1, _, _, rfl, rfl, s1 _ _ upd_same, upd_same, by rw [sizeLine_eq]; show 1 + _ ≤ _; omega, fun lc hlc => ?_⟩
  have s2 := same_upd (o := .lst ([.int c0] ++ cutV (ns.map V.int) (some 1) (some 4))) hlc
  have hTc := ((s0.trans s1).trans s2) _ _ hT
  have hlT : lc ≠ T := fun z => by
   have := (s0.trans s1) _ _ hT
   rw [← z, hlc] at this; cases this
  refine ⟨lc, rfl, ⟨_, SqL.of upd_same⟩, ?_⟩
  refine for_list (K := K) (a := lc) (xs := [.int c0] ++ cutV (ns.map V.int) (some 1) (some 4)) (fun i σ H' => (∃ o1 o2 o3 o4 o5 o6 o7 o8 o9 o10, σ = [some (.ref a), o1, o2, o3, o4, o5, o6, o7, o8, o9, o10]) ∧ H' lc = some (.lst ([.int c0] ++ cutV (ns.map V.int) (some 1) (some 4))) ∧ ∃ ps, TabI H' T ps qL posL')
   ⟨⟨_, _, _, _, _, _, _, _, _, _, rfl⟩, upd_same, #[], ⟨hTc, True.intro, fun pos _ => .inl rfl⟩⟩ (fun i σ H' _ h => SqL.of h.2.1) ?_ ?_
  ·rintro i y σ H' hi ⟨⟨o1, o2, o3, o4, o5, o6, o7, o8, o9, o10, rfl⟩, hl, ps, hTI⟩
   obtain ⟨c, rfl⟩ : ∃ c, y = V.int c := by
    rcases List.mem_append.mp (List.mem_of_getElem? hi) with z | z
    ·exact ⟨c0, List.mem_singleton.mp z⟩
    ·obtain ⟨c, _, e⟩ := List.mem_map.mp (cutV_mem z)
     exact ⟨c, e.symm⟩
   exact rb _ (some (.ref a)) o2 o3 o4 o5 o6 o7 o8 o9 o10 c ps H' hTI fun o2 o3 o4 o5 o6 o7 o8 o9 o10 ps' H2 kp T2 => ⟨⟨_, _, _, _, _, _, _, _, _, _, rfl⟩, kp _ _ hlT hl, ps', T2⟩
  ·rintro σ H' _
   exact q H'
end
end M03
namespace L2
open PySem PySem.Spec PyProof.Rows PySem.W
theorem law_callT {P : Program} {w : World} {K : PySem.W.Frag} {mg mb : Str → Option Value} {k : Nat} {fa a c T : Addr} {fd : FuncData} {x : Str} {sp : Sp} {s₁ : Shared} {vs : List Value} {ns : List Int}
  (KX : K.In s₁.heap) (hns : s₁.heap.Ns mainGlobals mg) (hb : s₁.heap.Ns builtinsNs mb) (hbb : ∀ x : Str, x ≠ "__name__" → mb x = bootBuiltins x) (hlim : s₁.heap.NoLimit) (hg : s₁.gens = #[])
  (ha : s₁.heap.get? a = some { cls := .type "list", data := .seq vs.toArray }) (hi : IntsAre vs ns) (hl : ns.length ≤ sizeLine) (hr : Room k callerA) (hT : s₁.heap.get? T = some (tabObj #[])) (hKT : K.lookup T = none) (hC : CodeHd s₁.heap c T) (hBM : BMain mg s₁.heap)
  (F : ∀ base : Heap, K.In base → base.Ns mainGlobals mg → CodeHd base c T → BMain mg base → FnOk P w K mg base CX0 k fa fd [x] sp) (hbind : ∀ (s : Shared) (u : Value), BindsTo s fd ⟨[u], []⟩ [(x, u)])
  (hsp : ∀ H : Hp, H T = some (.tbl #[]) → SqL K H a (ns.map V.int) → sp [.ref a] H (fun v _ => v = .bl true) fun _ _ _ => False) :
  codeAny (model P w) callerA (.call (.ref fa) ⟨[.ref a], []⟩) (fun r s' => r = .ok (.ret (.bool true)) ∧ OldK s₁.heap s'.heap ∧ s'.os = s₁.os ∧ AllBare s'.gens) s₁ := by
 have rv := vals_ints hi
 have lenV := hi.length
 have hTa : T ≠ a := fun z => by rw [z, ha] at hT; cases hT
 have core : ∀ H : Hp, H T = some (.tbl #[]) → (∀ b, b ≠ T → H b = none ∨ ∃ o xs, H b = some (.frz o (.lst xs))) → SqL K H a (ns.map V.int) → HOk P w H s₁.heap → (∀ b, H b ≠ none → b = a ∨ b = T) → (H a ≠ none → K.lookup a = none) →
   codeAny (model P w) callerA (.call (.ref fa) ⟨[.ref a], []⟩) (fun r s' => r = .ok (.ret (.bool true)) ∧ OldK s₁.heap s'.heap ∧ s'.os = s₁.os ∧ AllBare s'.gens) s₁ := by
  intro H hHT hO hS hok hA hK
  have base_of : ∀ {b : Addr} {o : Obj}, s₁.heap.get? b = some o → H b = none → (hidT s₁.heap H).get? b = some o := fun e n => hidT_get e n
  have noH : ∀ {b : Addr} {o : Obj}, s₁.heap.get? b = some o → o.cls ≠ .type "list" → o.cls ≠ .none → H b = none := fun {b o} e d1 d2 => by
   cases q : H b with
   | none => rfl
   | some u =>
    rcases hA b (by rw [q]; simp) with e' | e'
    ·rw [e', ha] at e; cases e; exact absurd rfl d1
    ·rw [e', hT] at e; cases e; exact absurd rfl d2
  have noA : ∀ {b : Addr} {o : Obj} {es : Array DictEntry} {ep : Nat}, s₁.heap.get? b = some o → o.data = .dict es ep → H b = none := fun {b o es ep} e d => by
   cases q : H b with
   | none => rfl
   | some u =>
    rcases hA b (by rw [q]; simp) with e' | e'
    ·rw [e', ha] at e; cases e; cases d
    ·rw [e', hT] at e; cases e; cases d
  have nsK : ∀ {b : Addr} {m : Str → Option Value}, s₁.heap.Ns b m → (hidT s₁.heap H).Ns b m := fun {b m} ⟨o, es, ep, e, d, r⟩ => ⟨o, es, ep, base_of e (noA e d), d, r⟩
  have hKb : K.In (hidT s₁.heap H) := fun b o e => base_of (KX b o e) (by
   cases q : H b with
   | none => rfl
   | some u =>
    rcases hA b (by rw [q]; simp) with e' | e'
    ·subst e'
     rw [hK (by rw [q]; simp)] at e; cases e
    ·rw [e', hKT] at e; cases e)
  have hM : Mod K mg (hidT s₁.heap H) := ⟨hKb, nsK hns, ⟨mb, nsK hb, hbb⟩, let ⟨mc, h1, h2⟩ := hlim; ⟨mc, nsK h1, h2⟩⟩
  have e0 : Env0 P w K mg (hidT s₁.heap H) callerA [] s₁ H := ⟨rfl, hM, fun b o e => of_hidT e, Nat.le_of_eq (hidT_size _ _), trivial, fun b hb => absurd (show b ∈ ([] : List Addr) from hb) (by simp), hok, .of_eq hg⟩
  have hCb : CodeHd (hidT s₁.heap H) c T := by
   obtain ⟨o, vs', file, tf, flags, tg, inF, text, tt, e1, e2, r⟩ := id hC
   exact ⟨o, vs', file, tf, flags, tg, inF, text, tt, base_of e1 (noH e1 (by rw [e2]; decide) (by rw [e2]; decide)), e2, r⟩
  have hBb : BMain mg (hidT s₁.heap H) := by
   obtain ⟨bm, ob, b1, b2, b3, b4, r⟩ := id hBM
   exact ⟨bm, ob, b1, b2, base_of b3 (noH b3 (by rw [b4]; decide) (by rw [b4]; decide)), b4, r⟩
  refine codeAny_mono ((F _ hKb (nsK hns) hCb hBb).run callerA [] s₁ H ⟨[.ref a], []⟩ [.ref a] [.ref a] _ _ hr e0 (hbind s₁ (.ref a)) (.cons rfl .nil) (hsp H hHT hS)) fun r s' h => ?_
  cases r with
  | error e => exact False.elim h
  | ok fl =>
   cases fl with
   | next => exact False.elim h
   | brk => exact False.elim h
   | cont => exact False.elim h
   | ret u =>
    obtain ⟨v, H', os, bare, un, hok', r', q⟩ := h
    have q' : v = .bl true := q
    subst q'
    obtain rfl : u = Value.bool true := r'
    have keep : ∀ b o, b ≠ T → s₁.heap.get? b = some o → s'.heap.get? b = some o := fun b o hbT e => by
     cases q : H b with
     | none => exact un.keep b o e q (by intro z; exact absurd (show b ∈ ([] : List Addr) from z) (by simp)) (by simp)
     | some u =>
      rcases hO b hbT with z | ⟨ob, xs, z⟩
      ·rw [q] at z; cases z
      ·have z2 := un.frzs b ob _ z
       obtain ⟨e1, _⟩ := hok b _ z
       obtain ⟨e2, _⟩ := hok' b _ z2
       rw [e] at e1; cases e1
       exact e2
    obtain ⟨more, hmore⟩ := un.tbls T _ hHT
    have hT' : s'.heap.get? T = some { cls := .none, data := .fields (#[] ++ more) } := hok' T _ hmore
    refine ⟨rfl, ⟨fun b o e => ?_, fun b o e => ?_⟩, os, bare⟩
    ·by_cases hbT : b = T
     ·subst hbT
      rw [hT] at e; cases e
      exact .inr (.inl ⟨(hC.tab hT).isCodeTable, rfl, #[], more, rfl, hT'⟩)
     ·exact .inl (keep b o hbT e)
    ·by_cases hbT : b = T
     ·exact ⟨_, by rw [hbT]; exact hT'⟩
     ·exact ⟨o, keep b o hbT e⟩
 have okT : ∀ H : Hp, H T = some (.tbl #[]) → (∀ b, b ≠ T → ∀ u, H b = some u → ObjOk P w H s₁.heap b u) → HOk P w H s₁.heap := fun H h1 h2 b u e => by
  by_cases hbT : b = T
  ·rw [hbT, h1] at e; cases e
   rw [hbT]; exact hT
  ·exact h2 b hbT u e
 cases hk : K.lookup a with
 | some o =>
  have e := KX a o hk
  rw [ha] at e
  cases e
  refine core (fun b => if b = T then some (.tbl #[]) else none) (if_pos rfl) (fun b hb => .inl (if_neg hb)) (.inr ⟨_, vs.toArray, _, hk, rfl, rfl, rfl, by rw [List.size_toArray, lenV]; exact hl, by simpa using rv⟩) (okT _ (if_pos rfl) fun b hb u z => by have z' := (if_neg hb).symm.trans z; cases z') (fun b z => ?_) fun z => absurd (if_neg hTa.symm) z
  by_cases hb : b = T
  ·exact .inr hb
  ·exact absurd (if_neg hb) z
 | none =>
  refine core (fun b => if b = T then some (.tbl #[]) else if b = a then some (.frz { cls := .type "list", data := .seq vs.toArray } (.lst (ns.map V.int))) else none) (if_pos rfl) (fun b hbT => ?_) (.inl (.inr ⟨{ cls := .type "list", data := .seq vs.toArray }, (if_neg hTa.symm).trans (if_pos rfl)⟩)) (okT _ (if_pos rfl) fun b hbT u z => ?_) (fun b z => ?_) fun _ => hk
  ·by_cases hb : b = a
   ·exact .inr ⟨_, _, (if_neg hbT).trans (if_pos hb)⟩
   ·exact .inl ((if_neg hbT).trans (if_neg hb))
  ·have z1 := (if_neg hbT).symm.trans z
   by_cases hb : b = a
   ·have z' := (if_pos hb).symm.trans z1
    cases z'
    subst hb
    exact ⟨ha, by rw [List.length_map]; exact hl, vs, _, rv, ha⟩
   ·have z' := (if_neg hb).symm.trans z1
    cases z'
  ·by_cases hbT : b = T
   ·exact .inr hbT
   ·by_cases hb : b = a
    ·exact .inl hb
    ·exact absurd ((if_neg hbT).trans (if_neg hb)) z
theorem walk_ofT {l : PySem.W.OpenLaw} {n k : Nat} {q : Program} {loose : List Str} {XP : (Str → Option Value) → Heap → Prop} {YP : World → Heap → Prop} {d : DefRec} {K : Params → PySem.W.Frag} {sp : World → Sp} {x : Str} {c T : Addr}
  (hn : l.most = some n) (hn2 : n ≤ sizeLine) (hdf : d.params.defaults = []) (hr : Room k callerA)
  (hY : ∀ (w : World) (h : Heap), YP w h → (K w.params).In h ∧ h.get? T = some (tabObj #[])) (hKT : ∀ w : World, (K w.params).lookup T = none) (hKC : ∀ w : World, codeHdIn (K w.params) c T = true)
  (F : ∀ (w : World) (mg : Str → Option Value) (fa : Addr) (h : Heap), (K w.params).In h → h.Ns mainGlobals mg → mg d.name = some (.ref fa) →
   ∃ fd : FuncData, (∀ (s : Shared) (u : Value), BindsTo s fd ⟨[u], []⟩ [(x, u)]) ∧
    ∀ base : Heap, (K w.params).In base → base.Ns mainGlobals mg → CodeHd base c T → BMain mg base → FnOk l.prog w (K w.params) mg base CX0 k fa fd [x] (sp w))
  (hsp : ∀ (w : World) (H : Hp) (a : Addr) (ns : List Int), ns.length ≤ n → H T = some (.tbl #[]) → SqL (K w.params) H a (ns.map V.int) → sp w [.ref a] H (fun v _ => v = .bl true) fun _ _ _ => False) :
  PySem.W.WalkO q loose XP YP l.row.toRowW d [] (fun f vs => PySem.call f vs) := by
 refine Att.attach_call hn hdf fun w s₀ s₁ mg mb fa o pm cd doc a vs ns G Y ho hd hcd hmg hobj hints hlen hg => ?_
 obtain ⟨KX, hT⟩ := hY w _ Y
 obtain ⟨fd, hb, hF⟩ := F w mg fa _ KX G.T.g hmg
 exact law_callT KX G.T.g G.T.b G.T.builtins G.T.nolimit hg hobj hints (Nat.le_trans hlen hn2) hr hT (hKT w) (codeHd_of_K KX (hKC w)) G.T.bmain hF hb (fun H hO hS => hsp w H a ns hlen hO hS)
end L2
namespace M03
open PySem L2 PyProof.Rows
theorem obK_excI {K : PySem.W.Frag} {D : Addr} {bm : List Value} {n : String} (h : excInI K D bm n = true) : ObK K D := by
 unfold excInI at h
 split at h
 ·rename_i e; exact ⟨_, _, _, e⟩
 ·cases h
theorem exm_of {K : PySem.W.Frag} {cP cE : Addr} (h1 : PySem.W.subIn K (.ref cE) (.type "BaseException") = some true) (h2 : PySem.W.kitOne K (.ref cP) (.ref cE) = some true) (h3 : (Value.ref cP == Value.ref cE) = false) : PySem.W.exmOne K (.ref cP) (.ref cE) = some true := by
 unfold PySem.W.kitOne at h2
 rw [if_neg (by rw [h3]; decide)] at h2
 unfold PySem.W.exmOne
 rw [h1, if_pos (by decide)]
 exact h2
theorem kit_self {K : PySem.W.Frag} {c : Addr} : PySem.W.kitOne K (.ref c) (.ref c) = some true := by unfold PySem.W.kitOne; rw [if_pos (by simp)]
theorem all_mk {l : PySem.W.OpenLaw} {w : World} {K : PySem.W.Frag} {h : Heap} {mg : Str → Option Value} {fa cE cL T fI C0 C1 C2 C3 C4 C5 C6 C7 C8 C9 C10 C11 C12 C13 C14 C15 : Addr} {odI anI : Option Addr} {slI : Array (Option Value)} {ocI kVI dcI pmI cdI ctI : Value} {f0 f1 f2 f3 f4 f5 f6 f7 f8 f9 f10 f11 f12 f13 f14 f15 f16 f17 f18 f19 f20 f21 f22 f23 f24 f25 f26 f27 f28 f29 : Addr} {od0 an0 od1 an1 od2 an2 od3 an3 od4 an4 od5 an5 od6 an6 od7 an7 od8 an8 od9 an9 od10 an10 od11 an11 od12 an12 od13 an13 od14 an14 od15 an15 od16 an16 od17 an17 od18 an18 od19 an19 od20 an20 od21 an21 od22 an22 od23 an23 od24 an24 od25 an25 od26 an26 od27 an27 od28 an28 od29 an29 : Option Addr} {sl0 sl1 sl2 sl3 sl4 sl5 sl6 sl7 sl8 sl9 sl10 sl11 sl12 sl13 sl14 sl15 sl16 sl17 sl18 sl19 sl20 sl21 sl22 sl23 sl24 sl25 sl26 sl27 sl28 sl29 : Array (Option Value)} {oc0 kV0 dc0 pm0 cd0 ct0 oc1 kV1 dc1 pm1 cd1 ct1 oc2 kV2 dc2 pm2 cd2 ct2 oc3 kV3 dc3 pm3 cd3 ct3 oc4 kV4 dc4 pm4 cd4 ct4 oc5 kV5 dc5 pm5 cd5 ct5 oc6 kV6 dc6 pm6 cd6 ct6 oc7 kV7 dc7 pm7 cd7 ct7 oc8 kV8 dc8 pm8 cd8 ct8 oc9 kV9 dc9 pm9 cd9 ct9 oc10 kV10 dc10 pm10 cd10 ct10 oc11 kV11 dc11 pm11 cd11 ct11 oc12 kV12 dc12 pm12 cd12 ct12 oc13 kV13 dc13 pm13 cd13 ct13 oc14 kV14 dc14 pm14 cd14 ct14 oc15 kV15 dc15 pm15 cd15 ct15 oc16 kV16 dc16 pm16 cd16 ct16 oc17 kV17 dc17 pm17 cd17 ct17 oc18 kV18 dc18 pm18 cd18 ct18 oc19 kV19 dc19 pm19 cd19 ct19 oc20 kV20 dc20 pm20 cd20 ct20 oc21 kV21 dc21 pm21 cd21 ct21 oc22 kV22 dc22 pm22 cd22 ct22 oc23 kV23 dc23 pm23 cd23 ct23 oc24 kV24 dc24 pm24 cd24 ct24 oc25 kV25 dc25 pm25 cd25 ct25 oc26 kV26 dc26 pm26 cd26 ct26 oc27 kV27 dc27 pm27 cd27 ct27 oc28 kV28 dc28 pm28 cd28 ct28 oc29 kV29 dc29 pm29 ct29 : Value} {t0 t1 t2 t3 : Tok} (X : K.In h) (G : h.Ns mainGlobals mg) (hfa : mg "law" = some (.ref fa))
  (a0 : PySem.W.nsIn K mainGlobals "is_number" = some (some (.ref f0)))
  (l0 : K.lookup f0 = some ⟨oc0, od0, .func (PySem.W.fnOf "is_number" "is_number" (defArgs sNumber) (defBody sNumber) (defScope sNumber) .none kV0 dc0 pm0 an0 cd0 ct0), sl0⟩)
  (c0 : PySem.W.codeIn K cd0 "is_number" = true)
  (k0 : PySem.W.keepIn K (.ref f0) = true)
  (a1 : PySem.W.nsIn K mainGlobals "is_number_within" = some (some (.ref f1)))
  (l1 : K.lookup f1 = some ⟨oc1, od1, .func (PySem.W.fnOf "is_number_within" "is_number_within" (defArgs sWithin) (defBody sWithin) (defScope sWithin) .none kV1 dc1 pm1 an1 cd1 ct1), sl1⟩)
  (c1 : PySem.W.codeIn K cd1 "is_number_within" = true)
  (k1 : PySem.W.keepIn K (.ref f1) = true)
  (a2 : PySem.W.nsIn K mainGlobals "is_tuple_within" = some (some (.ref f2)))
  (l2 : K.lookup f2 = some ⟨oc2, od2, .func (PySem.W.fnOf "is_tuple_within" "is_tuple_within" (defArgs sTuple) (defBody sTuple) (defScope sTuple) .none kV2 dc2 pm2 an2 cd2 ct2), sl2⟩)
  (c2 : PySem.W.codeIn K cd2 "is_tuple_within" = true)
  (k2 : PySem.W.keepIn K (.ref f2) = true)
  (a3 : PySem.W.nsIn K mainGlobals "is_rising" = some (some (.ref f3)))
  (l3 : K.lookup f3 = some ⟨oc3, od3, .func (PySem.W.fnOf "is_rising" "is_rising" (defArgs sRising) (defBody sRising) (defScope sRising) .none kV3 dc3 pm3 an3 cd3 ct3), sl3⟩)
  (c3 : PySem.W.codeIn K cd3 "is_rising" = true)
  (k3 : PySem.W.keepIn K (.ref f3) = true)
  (a4 : PySem.W.nsIn K mainGlobals "is_claim" = some (some (.ref f4)))
  (l4 : K.lookup f4 = some ⟨oc4, od4, .func (PySem.W.fnOf "is_claim" "is_claim" (defArgs sClaim) (defBody sClaim) (defScope sClaim) .none kV4 dc4 pm4 an4 cd4 ct4), sl4⟩)
  (c4 : PySem.W.codeIn K cd4 "is_claim" = true)
  (k4 : PySem.W.keepIn K (.ref f4) = true)
  (a5 : PySem.W.nsIn K mainGlobals "are_claims" = some (some (.ref f5)))
  (l5 : K.lookup f5 = some ⟨oc5, od5, .func (PySem.W.fnOf "are_claims" "are_claims" (defArgs sClaims) (defBody sClaims) (defScope sClaims) .none kV5 dc5 pm5 an5 cd5 ct5), sl5⟩)
  (c5 : PySem.W.codeIn K cd5 "are_claims" = true)
  (k5 : PySem.W.keepIn K (.ref f5) = true)
  (a6 : PySem.W.nsIn K mainGlobals "check_claim" = some (some (.ref f6)))
  (l6 : K.lookup f6 = some ⟨oc6, od6, .func (PySem.W.fnOf "check_claim" "check_claim" (defArgs sChkClaim) (defBody sChkClaim) (defScope sChkClaim) .none kV6 dc6 pm6 an6 cd6 ct6), sl6⟩)
  (c6 : PySem.W.codeIn K cd6 "check_claim" = true)
  (k6 : PySem.W.keepIn K (.ref f6) = true)
  (a7 : PySem.W.nsIn K mainGlobals "check_claims" = some (some (.ref f7)))
  (l7 : K.lookup f7 = some ⟨oc7, od7, .func (PySem.W.fnOf "check_claims" "check_claims" (defArgs sChkClaims) (defBody sChkClaims) (defScope sChkClaims) .none kV7 dc7 pm7 an7 cd7 ct7), sl7⟩)
  (c7 : PySem.W.codeIn K cd7 "check_claims" = true)
  (k7 : PySem.W.keepIn K (.ref f7) = true)
  (a8 : PySem.W.nsIn K mainGlobals "is_holder" = some (some (.ref f8)))
  (l8 : K.lookup f8 = some ⟨oc8, od8, .func (PySem.W.fnOf "is_holder" "is_holder" (defArgs sIsHolder) (defBody sIsHolder) (defScope sIsHolder) .none kV8 dc8 pm8 an8 cd8 ct8), sl8⟩)
  (c8 : PySem.W.codeIn K cd8 "is_holder" = true)
  (k8 : PySem.W.keepIn K (.ref f8) = true)
  (a9 : PySem.W.nsIn K mainGlobals "check_holder" = some (some (.ref f9)))
  (l9 : K.lookup f9 = some ⟨oc9, od9, .func (PySem.W.fnOf "check_holder" "check_holder" (defArgs sChkHolder) (defBody sChkHolder) (defScope sChkHolder) .none kV9 dc9 pm9 an9 cd9 ct9), sl9⟩)
  (c9 : PySem.W.codeIn K cd9 "check_holder" = true)
  (k9 : PySem.W.keepIn K (.ref f9) = true)
  (a10 : PySem.W.nsIn K mainGlobals "check_two_holders" = some (some (.ref f10)))
  (l10 : K.lookup f10 = some ⟨oc10, od10, .func (PySem.W.fnOf "check_two_holders" "check_two_holders" (defArgs sTwo) (defBody sTwo) (defScope sTwo) .none kV10 dc10 pm10 an10 cd10 ct10), sl10⟩)
  (c10 : PySem.W.codeIn K cd10 "check_two_holders" = true)
  (k10 : PySem.W.keepIn K (.ref f10) = true)
  (a11 : PySem.W.nsIn K mainGlobals "laid" = some (some (.ref f11)))
  (l11 : K.lookup f11 = some ⟨oc11, od11, .func (PySem.W.fnOf "laid" "laid" (defArgs sLaid) (defBody sLaid) (defScope sLaid) .none kV11 dc11 pm11 an11 cd11 ct11), sl11⟩)
  (c11 : PySem.W.codeIn K cd11 "laid" = true)
  (k11 : PySem.W.keepIn K (.ref f11) = true)
  (a12 : PySem.W.nsIn K mainGlobals "denied" = some (some (.ref f12)))
  (l12 : K.lookup f12 = some ⟨oc12, od12, .func (PySem.W.fnOf "denied" "denied" (defArgs sDenied) (defBody sDenied) (defScope sDenied) .none kV12 dc12 pm12 an12 cd12 ct12), sl12⟩)
  (c12 : PySem.W.codeIn K cd12 "denied" = true)
  (k12 : PySem.W.keepIn K (.ref f12) = true)
  (a13 : PySem.W.nsIn K mainGlobals "rights_of" = some (some (.ref f13)))
  (l13 : K.lookup f13 = some ⟨oc13, od13, .func (PySem.W.fnOf "rights_of" "rights_of" (defArgs sRights) (defBody sRights) (defScope sRights) .none kV13 dc13 pm13 an13 cd13 ct13), sl13⟩)
  (c13 : PySem.W.codeIn K cd13 "rights_of" = true)
  (k13 : PySem.W.keepIn K (.ref f13) = true)
  (a14 : PySem.W.nsIn K mainGlobals "joined" = some (some (.ref f14)))
  (l14 : K.lookup f14 = some ⟨oc14, od14, .func (PySem.W.fnOf "joined" "joined" (defArgs sJoined) (defBody sJoined) (defScope sJoined) .none kV14 dc14 pm14 an14 cd14 ct14), sl14⟩)
  (c14 : PySem.W.codeIn K cd14 "joined" = true)
  (k14 : PySem.W.keepIn K (.ref f14) = true)
  (a15 : PySem.W.nsIn K mainGlobals "_law_cell" = some (some (.ref f15)))
  (l15 : K.lookup f15 = some ⟨oc15, od15, .func (PySem.W.fnOf "_law_cell" "_law_cell" (defArgs sCell) (defBody sCell) (defScope sCell) .none kV15 dc15 pm15 an15 cd15 ct15), sl15⟩)
  (c15 : PySem.W.codeIn K cd15 "_law_cell" = true)
  (k15 : PySem.W.keepIn K (.ref f15) = true)
  (a16 : PySem.W.nsIn K mainGlobals "_law_pen" = some (some (.ref f16)))
  (l16 : K.lookup f16 = some ⟨oc16, od16, .func (PySem.W.fnOf "_law_pen" "_law_pen" (defArgs sPen) (defBody sPen) (defScope sPen) .none kV16 dc16 pm16 an16 cd16 ct16), sl16⟩)
  (c16 : PySem.W.codeIn K cd16 "_law_pen" = true)
  (k16 : PySem.W.keepIn K (.ref f16) = true)
  (a17 : PySem.W.nsIn K mainGlobals "_law_draw" = some (some (.ref f17)))
  (l17 : K.lookup f17 = some ⟨oc17, od17, .func (PySem.W.fnOf "_law_draw" "_law_draw" (defArgs sDraw) (defBody sDraw) (defScope sDraw) .none kV17 dc17 pm17 an17 cd17 ct17), sl17⟩)
  (c17 : PySem.W.codeIn K cd17 "_law_draw" = true)
  (k17 : PySem.W.keepIn K (.ref f17) = true)
  (a18 : PySem.W.nsIn K mainGlobals "_law_pick" = some (some (.ref f18)))
  (l18 : K.lookup f18 = some ⟨oc18, od18, .func (PySem.W.fnOf "_law_pick" "_law_pick" (defArgs sPick) (defBody sPick) (defScope sPick) .none kV18 dc18 pm18 an18 cd18 ct18), sl18⟩)
  (c18 : PySem.W.codeIn K cd18 "_law_pick" = true)
  (k18 : PySem.W.keepIn K (.ref f18) = true)
  (a19 : PySem.W.nsIn K mainGlobals "_law_mixed" = some (some (.ref f19)))
  (l19 : K.lookup f19 = some ⟨oc19, od19, .func (PySem.W.fnOf "_law_mixed" "_law_mixed" (defArgs sMixed) (defBody sMixed) (defScope sMixed) .none kV19 dc19 pm19 an19 cd19 ct19), sl19⟩)
  (c19 : PySem.W.codeIn K cd19 "_law_mixed" = true)
  (k19 : PySem.W.keepIn K (.ref f19) = true)
  (a20 : PySem.W.nsIn K mainGlobals "_law_same" = some (some (.ref f20)))
  (l20 : K.lookup f20 = some ⟨oc20, od20, .func (PySem.W.fnOf "_law_same" "_law_same" (defArgs sSame) (defBody sSame) (defScope sSame) .none kV20 dc20 pm20 an20 cd20 ct20), sl20⟩)
  (c20 : PySem.W.codeIn K cd20 "_law_same" = true)
  (k20 : PySem.W.keepIn K (.ref f20) = true)
  (a21 : PySem.W.nsIn K mainGlobals "_law_word" = some (some (.ref f21)))
  (l21 : K.lookup f21 = some ⟨oc21, od21, .func (PySem.W.fnOf "_law_word" "_law_word" (defArgs sWord) (defBody sWord) (defScope sWord) .none kV21 dc21 pm21 an21 cd21 ct21), sl21⟩)
  (c21 : PySem.W.codeIn K cd21 "_law_word" = true)
  (k21 : PySem.W.keepIn K (.ref f21) = true)
  (a22 : PySem.W.nsIn K mainGlobals "_law_came" = some (some (.ref f22)))
  (l22 : K.lookup f22 = some ⟨oc22, od22, .func (PySem.W.fnOf "_law_came" "_law_came" (defArgs sCame) (defBody sCame) (defScope sCame) .none kV22 dc22 pm22 an22 cd22 ct22), sl22⟩)
  (c22 : PySem.W.codeIn K cd22 "_law_came" = true)
  (k22 : PySem.W.keepIn K (.ref f22) = true)
  (a23 : PySem.W.nsIn K mainGlobals "_law_claims" = some (some (.ref f23)))
  (l23 : K.lookup f23 = some ⟨oc23, od23, .func (PySem.W.fnOf "_law_claims" "_law_claims" (defArgs sClaimsL) (defBody sClaimsL) (defScope sClaimsL) .none kV23 dc23 pm23 an23 cd23 ct23), sl23⟩)
  (c23 : PySem.W.codeIn K cd23 "_law_claims" = true)
  (k23 : PySem.W.keepIn K (.ref f23) = true)
  (a24 : PySem.W.nsIn K mainGlobals "_law_holders" = some (some (.ref f24)))
  (l24 : K.lookup f24 = some ⟨oc24, od24, .func (PySem.W.fnOf "_law_holders" "_law_holders" (defArgs sHolders) (defBody sHolders) (defScope sHolders) .none kV24 dc24 pm24 an24 cd24 ct24), sl24⟩)
  (c24 : PySem.W.codeIn K cd24 "_law_holders" = true)
  (k24 : PySem.W.keepIn K (.ref f24) = true)
  (a25 : PySem.W.nsIn K mainGlobals "_law_laid" = some (some (.ref f25)))
  (l25 : K.lookup f25 = some ⟨oc25, od25, .func (PySem.W.fnOf "_law_laid" "_law_laid" (defArgs sLaidL) (defBody sLaidL) (defScope sLaidL) .none kV25 dc25 pm25 an25 cd25 ct25), sl25⟩)
  (c25 : PySem.W.codeIn K cd25 "_law_laid" = true)
  (k25 : PySem.W.keepIn K (.ref f25) = true)
  (a26 : PySem.W.nsIn K mainGlobals "_law_denied" = some (some (.ref f26)))
  (l26 : K.lookup f26 = some ⟨oc26, od26, .func (PySem.W.fnOf "_law_denied" "_law_denied" (defArgs sDeniedL) (defBody sDeniedL) (defScope sDeniedL) .none kV26 dc26 pm26 an26 cd26 ct26), sl26⟩)
  (c26 : PySem.W.codeIn K cd26 "_law_denied" = true)
  (k26 : PySem.W.keepIn K (.ref f26) = true)
  (a27 : PySem.W.nsIn K mainGlobals "_law_joined" = some (some (.ref f27)))
  (l27 : K.lookup f27 = some ⟨oc27, od27, .func (PySem.W.fnOf "_law_joined" "_law_joined" (defArgs sJoinedL) (defBody sJoinedL) (defScope sJoinedL) .none kV27 dc27 pm27 an27 cd27 ct27), sl27⟩)
  (c27 : PySem.W.codeIn K cd27 "_law_joined" = true)
  (k27 : PySem.W.keepIn K (.ref f27) = true)
  (a28 : PySem.W.nsIn K mainGlobals "_law_full" = some (some (.ref f28)))
  (l28 : K.lookup f28 = some ⟨oc28, od28, .func (PySem.W.fnOf "_law_full" "_law_full" (defArgs sFull) (defBody sFull) (defScope sFull) .none kV28 dc28 pm28 an28 cd28 ct28), sl28⟩)
  (c28 : PySem.W.codeIn K cd28 "_law_full" = true)
  (k28 : PySem.W.keepIn K (.ref f28) = true)
  (a29 : PySem.W.nsIn K mainGlobals "law" = some (some (.ref f29)))
  (l29 : K.lookup f29 = some ⟨oc29, od29, .func (PySem.W.fnOf "law" "law" (defArgs sLaw) (defBody sLaw) (defScope sLaw) .none kV29 dc29 pm29 an29 (.ref cL) ct29), sl29⟩)
  (c29 : PySem.W.codeIn K (.ref cL) "law" = true)
  (k29 : PySem.W.keepIn K (.ref f29) = true)
  (v0 : PySem.W.nsIn K mainGlobals "MOST_SORTS" = some (some (.int 6 t0)))
  (v1 : PySem.W.nsIn K mainGlobals "MOST_HOLDERS" = some (some (.int 4 t1)))
  (v2 : PySem.W.nsIn K mainGlobals "MOST_RIGHTS" = some (some (.int 20 t2)))
  (v3 : PySem.W.nsIn K mainGlobals "MOST_CLAIMS" = some (some (.int 12 t3)))
  (z0 : PySem.W.nsIn K mainGlobals "isinstance" = some none)
  (z1 : PySem.W.nsIn K mainGlobals "int" = some none)
  (z2 : PySem.W.nsIn K mainGlobals "bool" = some none)
  (z3 : PySem.W.nsIn K mainGlobals "tuple" = some none)
  (z4 : PySem.W.nsIn K mainGlobals "len" = some none)
  (z5 : PySem.W.nsIn K mainGlobals "all" = some none)
  (z6 : PySem.W.nsIn K mainGlobals "any" = some none)
  (z7 : PySem.W.nsIn K mainGlobals "zip" = some none)
  (z8 : PySem.W.nsIn K mainGlobals "range" = some none)
  (z9 : PySem.W.nsIn K mainGlobals "sum" = some none)
  (z10 : PySem.W.nsIn K mainGlobals "list" = some none)
  (z11 : PySem.W.nsIn K mainGlobals "set" = some none)
  (z12 : PySem.W.nsIn K mainGlobals "repr" = some none)
  (z13 : PySem.W.nsIn K mainGlobals "ValueError" = some none)
  (z14 : PySem.W.nsIn K mainGlobals "sorted" = some none)
  (eE : PySem.W.nsIn K mainGlobals "MeadError" = some (some (.ref cE)))
  (e0 : PySem.W.nsIn K mainGlobals "NoMead" = some (some (.ref C0)))
  (e1 : PySem.W.nsIn K mainGlobals "NoPlace" = some (some (.ref C1)))
  (e2 : PySem.W.nsIn K mainGlobals "NoLand" = some (some (.ref C2)))
  (e3 : PySem.W.nsIn K mainGlobals "NoCustom" = some (some (.ref C3)))
  (e4 : PySem.W.nsIn K mainGlobals "NoClaim" = some (some (.ref C4)))
  (e5 : PySem.W.nsIn K mainGlobals "NoClaims" = some (some (.ref C5)))
  (e6 : PySem.W.nsIn K mainGlobals "NoHolder" = some (some (.ref C6)))
  (e7 : PySem.W.nsIn K mainGlobals "There" = some (some (.ref C7)))
  (e8 : PySem.W.nsIn K mainGlobals "Missing" = some (some (.ref C8)))
  (e9 : PySem.W.nsIn K mainGlobals "NoPlea" = some (some (.ref C9)))
  (e10 : PySem.W.nsIn K mainGlobals "NoParting" = some (some (.ref C10)))
  (e11 : PySem.W.nsIn K mainGlobals "NoWill" = some (some (.ref C11)))
  (e12 : PySem.W.nsIn K mainGlobals "NoHouses" = some (some (.ref C12)))
  (e13 : PySem.W.nsIn K mainGlobals "NoOdd" = some (some (.ref C13)))
  (e14 : PySem.W.nsIn K mainGlobals "NoUndo" = some (some (.ref C14)))
  (e15 : PySem.W.nsIn K mainGlobals "TooMany" = some (some (.ref C15)))
  (xE : PySem.W.subIn K (.ref cE) (.type "BaseException") = some true)
  (xx5 : PySem.W.excIn K C5 [.type "ValueError", .type "Exception", .type "BaseException", .type "object"] "ValueError.__new__" = true)
  (q5_0 : PySem.W.kitOne K (.ref C5) (.ref C0) = some false)
  (q5_1 : PySem.W.kitOne K (.ref C5) (.ref C1) = some false)
  (q5_2 : PySem.W.kitOne K (.ref C5) (.ref C2) = some false)
  (q5_3 : PySem.W.kitOne K (.ref C5) (.ref C3) = some false)
  (q5_4 : PySem.W.kitOne K (.ref C5) (.ref C4) = some false)
  (q5_6 : PySem.W.kitOne K (.ref C5) (.ref C6) = some false)
  (q5_7 : PySem.W.kitOne K (.ref C5) (.ref C7) = some false)
  (q5_8 : PySem.W.kitOne K (.ref C5) (.ref C8) = some false)
  (q5_9 : PySem.W.kitOne K (.ref C5) (.ref C9) = some false)
  (q5_10 : PySem.W.kitOne K (.ref C5) (.ref C10) = some false)
  (q5_11 : PySem.W.kitOne K (.ref C5) (.ref C11) = some false)
  (q5_12 : PySem.W.kitOne K (.ref C5) (.ref C12) = some false)
  (q5_13 : PySem.W.kitOne K (.ref C5) (.ref C13) = some false)
  (q5_14 : PySem.W.kitOne K (.ref C5) (.ref C14) = some false)
  (q5_15 : PySem.W.kitOne K (.ref C5) (.ref C15) = some false)
  (qv5 : PySem.W.kitOne K (.ref C5) (.type "ValueError") = some true)
  (qe5 : PySem.W.kitOne K (.ref C5) (.ref cE) = some true)
  (qn5 : (Value.ref C5 == Value.ref cE) = false)
  (ya5 : PySem.W.findIn K (.ref C5) "__class__" = some (some (.builtin "object.__class__")))
  (yb5 : PySem.W.findIn K (.ref C5) "__getattribute__" = some (some (.builtin "BaseException.__getattribute__")))
  (yc5 : PySem.W.findIn K (.ref C5) "__getattr__" = some none)
  (yd5 : PySem.W.mroIn K C5 (.type "object") = some true)
  (yf5 : PySem.W.mroIn K C5 (.type "BaseException") = some true)
  (xx6 : PySem.W.excIn K C6 [.type "ValueError", .type "Exception", .type "BaseException", .type "object"] "ValueError.__new__" = true)
  (q6_0 : PySem.W.kitOne K (.ref C6) (.ref C0) = some false)
  (q6_1 : PySem.W.kitOne K (.ref C6) (.ref C1) = some false)
  (q6_2 : PySem.W.kitOne K (.ref C6) (.ref C2) = some false)
  (q6_3 : PySem.W.kitOne K (.ref C6) (.ref C3) = some false)
  (q6_4 : PySem.W.kitOne K (.ref C6) (.ref C4) = some false)
  (q6_5 : PySem.W.kitOne K (.ref C6) (.ref C5) = some false)
  (q6_7 : PySem.W.kitOne K (.ref C6) (.ref C7) = some false)
  (q6_8 : PySem.W.kitOne K (.ref C6) (.ref C8) = some false)
  (q6_9 : PySem.W.kitOne K (.ref C6) (.ref C9) = some false)
  (q6_10 : PySem.W.kitOne K (.ref C6) (.ref C10) = some false)
  (q6_11 : PySem.W.kitOne K (.ref C6) (.ref C11) = some false)
  (q6_12 : PySem.W.kitOne K (.ref C6) (.ref C12) = some false)
  (q6_13 : PySem.W.kitOne K (.ref C6) (.ref C13) = some false)
  (q6_14 : PySem.W.kitOne K (.ref C6) (.ref C14) = some false)
  (q6_15 : PySem.W.kitOne K (.ref C6) (.ref C15) = some false)
  (qv6 : PySem.W.kitOne K (.ref C6) (.type "ValueError") = some true)
  (qe6 : PySem.W.kitOne K (.ref C6) (.ref cE) = some true)
  (qn6 : (Value.ref C6 == Value.ref cE) = false)
  (ya6 : PySem.W.findIn K (.ref C6) "__class__" = some (some (.builtin "object.__class__")))
  (yb6 : PySem.W.findIn K (.ref C6) "__getattribute__" = some (some (.builtin "BaseException.__getattribute__")))
  (yc6 : PySem.W.findIn K (.ref C6) "__getattr__" = some none)
  (yd6 : PySem.W.mroIn K C6 (.type "object") = some true)
  (yf6 : PySem.W.mroIn K C6 (.type "BaseException") = some true)
  (xx7 : PySem.W.excIn K C7 [.type "ValueError", .type "Exception", .type "BaseException", .type "object"] "ValueError.__new__" = true)
  (q7_0 : PySem.W.kitOne K (.ref C7) (.ref C0) = some false)
  (q7_1 : PySem.W.kitOne K (.ref C7) (.ref C1) = some false)
  (q7_2 : PySem.W.kitOne K (.ref C7) (.ref C2) = some false)
  (q7_3 : PySem.W.kitOne K (.ref C7) (.ref C3) = some false)
  (q7_4 : PySem.W.kitOne K (.ref C7) (.ref C4) = some false)
  (q7_5 : PySem.W.kitOne K (.ref C7) (.ref C5) = some false)
  (q7_6 : PySem.W.kitOne K (.ref C7) (.ref C6) = some false)
  (q7_8 : PySem.W.kitOne K (.ref C7) (.ref C8) = some false)
  (q7_9 : PySem.W.kitOne K (.ref C7) (.ref C9) = some false)
  (q7_10 : PySem.W.kitOne K (.ref C7) (.ref C10) = some false)
  (q7_11 : PySem.W.kitOne K (.ref C7) (.ref C11) = some false)
  (q7_12 : PySem.W.kitOne K (.ref C7) (.ref C12) = some false)
  (q7_13 : PySem.W.kitOne K (.ref C7) (.ref C13) = some false)
  (q7_14 : PySem.W.kitOne K (.ref C7) (.ref C14) = some false)
  (q7_15 : PySem.W.kitOne K (.ref C7) (.ref C15) = some false)
  (qv7 : PySem.W.kitOne K (.ref C7) (.type "ValueError") = some true)
  (qe7 : PySem.W.kitOne K (.ref C7) (.ref cE) = some true)
  (qn7 : (Value.ref C7 == Value.ref cE) = false)
  (ya7 : PySem.W.findIn K (.ref C7) "__class__" = some (some (.builtin "object.__class__")))
  (yb7 : PySem.W.findIn K (.ref C7) "__getattribute__" = some (some (.builtin "BaseException.__getattribute__")))
  (yc7 : PySem.W.findIn K (.ref C7) "__getattr__" = some none)
  (yd7 : PySem.W.mroIn K C7 (.type "object") = some true)
  (yf7 : PySem.W.mroIn K C7 (.type "BaseException") = some true)
  (xx8 : PySem.W.excIn K C8 [.type "ValueError", .type "Exception", .type "BaseException", .type "object"] "ValueError.__new__" = true)
  (q8_0 : PySem.W.kitOne K (.ref C8) (.ref C0) = some false)
  (q8_1 : PySem.W.kitOne K (.ref C8) (.ref C1) = some false)
  (q8_2 : PySem.W.kitOne K (.ref C8) (.ref C2) = some false)
  (q8_3 : PySem.W.kitOne K (.ref C8) (.ref C3) = some false)
  (q8_4 : PySem.W.kitOne K (.ref C8) (.ref C4) = some false)
  (q8_5 : PySem.W.kitOne K (.ref C8) (.ref C5) = some false)
  (q8_6 : PySem.W.kitOne K (.ref C8) (.ref C6) = some false)
  (q8_7 : PySem.W.kitOne K (.ref C8) (.ref C7) = some false)
  (q8_9 : PySem.W.kitOne K (.ref C8) (.ref C9) = some false)
  (q8_10 : PySem.W.kitOne K (.ref C8) (.ref C10) = some false)
  (q8_11 : PySem.W.kitOne K (.ref C8) (.ref C11) = some false)
  (q8_12 : PySem.W.kitOne K (.ref C8) (.ref C12) = some false)
  (q8_13 : PySem.W.kitOne K (.ref C8) (.ref C13) = some false)
  (q8_14 : PySem.W.kitOne K (.ref C8) (.ref C14) = some false)
  (q8_15 : PySem.W.kitOne K (.ref C8) (.ref C15) = some false)
  (qv8 : PySem.W.kitOne K (.ref C8) (.type "ValueError") = some true)
  (qe8 : PySem.W.kitOne K (.ref C8) (.ref cE) = some true)
  (qn8 : (Value.ref C8 == Value.ref cE) = false)
  (ya8 : PySem.W.findIn K (.ref C8) "__class__" = some (some (.builtin "object.__class__")))
  (yb8 : PySem.W.findIn K (.ref C8) "__getattribute__" = some (some (.builtin "BaseException.__getattribute__")))
  (yc8 : PySem.W.findIn K (.ref C8) "__getattr__" = some none)
  (yd8 : PySem.W.mroIn K C8 (.type "object") = some true)
  (yf8 : PySem.W.mroIn K C8 (.type "BaseException") = some true)
  (q15_0 : PySem.W.kitOne K (.ref C15) (.ref C0) = some false)
  (q15_1 : PySem.W.kitOne K (.ref C15) (.ref C1) = some false)
  (q15_2 : PySem.W.kitOne K (.ref C15) (.ref C2) = some false)
  (q15_3 : PySem.W.kitOne K (.ref C15) (.ref C3) = some false)
  (q15_4 : PySem.W.kitOne K (.ref C15) (.ref C4) = some false)
  (q15_5 : PySem.W.kitOne K (.ref C15) (.ref C5) = some false)
  (q15_6 : PySem.W.kitOne K (.ref C15) (.ref C6) = some false)
  (q15_7 : PySem.W.kitOne K (.ref C15) (.ref C7) = some false)
  (q15_8 : PySem.W.kitOne K (.ref C15) (.ref C8) = some false)
  (q15_9 : PySem.W.kitOne K (.ref C15) (.ref C9) = some false)
  (q15_10 : PySem.W.kitOne K (.ref C15) (.ref C10) = some false)
  (q15_11 : PySem.W.kitOne K (.ref C15) (.ref C11) = some false)
  (q15_12 : PySem.W.kitOne K (.ref C15) (.ref C12) = some false)
  (q15_13 : PySem.W.kitOne K (.ref C15) (.ref C13) = some false)
  (q15_14 : PySem.W.kitOne K (.ref C15) (.ref C14) = some false)
  (qv15 : PySem.W.kitOne K (.ref C15) (.type "ValueError") = some true)
  (qe15 : PySem.W.kitOne K (.ref C15) (.ref cE) = some true)
  (qn15 : (Value.ref C15 == Value.ref cE) = false)
  (ya15 : PySem.W.findIn K (.ref C15) "__class__" = some (some (.builtin "object.__class__")))
  (yb15 : PySem.W.findIn K (.ref C15) "__getattribute__" = some (some (.builtin "BaseException.__getattribute__")))
  (yc15 : PySem.W.findIn K (.ref C15) "__getattr__" = some none)
  (yd15 : PySem.W.mroIn K C15 (.type "object") = some true)
  (yf15 : PySem.W.mroIn K C15 (.type "BaseException") = some true)
  (y6 : PySem.W.specialIn K (.builtin "object.__class__") "__get__" = some (some (.builtin "getset_descriptor.__get__")))
  (y7 : PySem.W.takesIn K (.builtin "object.__class__") = some true)
  (eI : PySem.W.findIn K (.ref C15) "__init__" = some (some (.ref fI)))
  (lI : K.lookup fI = some ⟨ocI, odI, .func (PySem.W.fnOf "__init__" "TooMany.__init__" (defArgs sInit) (defBody sInit) (defScope sInit) .none kVI dcI pmI anI cdI ctI), slI⟩)
  (cI : PySem.W.codeIn K cdI "TooMany.__init__" = true)
  (kI : PySem.W.keepIn K (.ref fI) = true)
  (w0 : excInI K C15 bmV "ValueError.__new__" = true)
  (w1 : PySem.W.isFn K (.ref fI) = true)
  (w2 : PySem.W.keepIn K (.ref C15) = true)
  (w3 : PySem.W.findIn K (.ref C15) "__setattr__" = some (some (.builtin "object.__setattr__")))
  (w4 : ((PySem.W.clsIn K C15).any fun cd => overV cd.mro) = true)
  (w5 : PySem.W.hasDictIn K C15 = true)
  (n1 : PySem.W.findIn K (.ref C15) "many" = some none)
  (n2 : PySem.W.findIn K (.ref C15) "most" = some none) :
  ∃ fd : FuncData, (∀ (s : Shared) (v : Value), BindsTo s fd ⟨[v], []⟩ [("_law_script", v)]) ∧ ∀ base : Heap, K.In base → base.Ns mainGlobals mg → PySem.W.CodeHd base cL T → BMain mg base → FnOk l.prog w K mg base CX0 9 fa fd ["_law_script"] (spLaw K T) := by
 have e := hfa.symm.trans (PySem.W.mg_of X G a29)
 cases e
 have T' : Txt mg := ⟨PySem.W.mg_none_of X G z0, PySem.W.mg_none_of X G z1, PySem.W.mg_none_of X G z2, PySem.W.mg_none_of X G z3, PySem.W.mg_none_of X G z4, PySem.W.mg_none_of X G z5, PySem.W.mg_none_of X G z6, PySem.W.mg_none_of X G z7, PySem.W.mg_none_of X G z8, PySem.W.mg_none_of X G z9, PySem.W.mg_none_of X G z10, PySem.W.mg_none_of X G z11, PySem.W.mg_none_of X G z12, PySem.W.mg_none_of X G z13, PySem.W.mg_none_of X G z14, ⟨_, PySem.W.mg_of X G v0⟩, ⟨_, PySem.W.mg_of X G v1⟩, ⟨_, PySem.W.mg_of X G v2⟩, ⟨_, PySem.W.mg_of X G v3⟩⟩
 let cc : Nat → Addr := fun i => [C0, C1, C2, C3, C4, C5, C6, C7, C8, C9, C10, C11, C12, C13, C14, C15].getD i 0
 have NN : Names mg cc := ⟨PySem.W.mg_of X G e0, PySem.W.mg_of X G e1, PySem.W.mg_of X G e2, PySem.W.mg_of X G e3, PySem.W.mg_of X G e4, PySem.W.mg_of X G e5, PySem.W.mg_of X G e6, PySem.W.mg_of X G e7, PySem.W.mg_of X G e8, PySem.W.mg_of X G e9, PySem.W.mg_of X G e10, PySem.W.mg_of X G e11, PySem.W.mg_of X G e12, PySem.W.mg_of X G e13, PySem.W.mg_of X G e14, PySem.W.mg_of X G e15⟩
 have W5 : ClsW K cc cE (cc 5) 5 := ⟨⟨obK_exc xx5, ya5, yb5, yc5, yd5, yf5, y6, y7⟩, exm_of xE qe5 qn5, by decide, fun i hi => match i, hi with | 0, _ => q5_0 | 1, _ => q5_1 | 2, _ => q5_2 | 3, _ => q5_3 | 4, _ => q5_4 | 5, _ => kit_self | 6, _ => q5_6 | 7, _ => q5_7 | 8, _ => q5_8 | 9, _ => q5_9 | 10, _ => q5_10 | 11, _ => q5_11 | 12, _ => q5_12 | 13, _ => q5_13 | 14, _ => q5_14 | 15, _ => q5_15 | n + 16, h => absurd h (by omega), qv5⟩
 have W6 : ClsW K cc cE (cc 6) 6 := ⟨⟨obK_exc xx6, ya6, yb6, yc6, yd6, yf6, y6, y7⟩, exm_of xE qe6 qn6, by decide, fun i hi => match i, hi with | 0, _ => q6_0 | 1, _ => q6_1 | 2, _ => q6_2 | 3, _ => q6_3 | 4, _ => q6_4 | 5, _ => q6_5 | 6, _ => kit_self | 7, _ => q6_7 | 8, _ => q6_8 | 9, _ => q6_9 | 10, _ => q6_10 | 11, _ => q6_11 | 12, _ => q6_12 | 13, _ => q6_13 | 14, _ => q6_14 | 15, _ => q6_15 | n + 16, h => absurd h (by omega), qv6⟩
 have W7 : ClsW K cc cE (cc 7) 7 := ⟨⟨obK_exc xx7, ya7, yb7, yc7, yd7, yf7, y6, y7⟩, exm_of xE qe7 qn7, by decide, fun i hi => match i, hi with | 0, _ => q7_0 | 1, _ => q7_1 | 2, _ => q7_2 | 3, _ => q7_3 | 4, _ => q7_4 | 5, _ => q7_5 | 6, _ => q7_6 | 7, _ => kit_self | 8, _ => q7_8 | 9, _ => q7_9 | 10, _ => q7_10 | 11, _ => q7_11 | 12, _ => q7_12 | 13, _ => q7_13 | 14, _ => q7_14 | 15, _ => q7_15 | n + 16, h => absurd h (by omega), qv7⟩
 have W8 : ClsW K cc cE (cc 8) 8 := ⟨⟨obK_exc xx8, ya8, yb8, yc8, yd8, yf8, y6, y7⟩, exm_of xE qe8 qn8, by decide, fun i hi => match i, hi with | 0, _ => q8_0 | 1, _ => q8_1 | 2, _ => q8_2 | 3, _ => q8_3 | 4, _ => q8_4 | 5, _ => q8_5 | 6, _ => q8_6 | 7, _ => q8_7 | 8, _ => kit_self | 9, _ => q8_9 | 10, _ => q8_10 | 11, _ => q8_11 | 12, _ => q8_12 | 13, _ => q8_13 | 14, _ => q8_14 | 15, _ => q8_15 | n + 16, h => absurd h (by omega), qv8⟩
 have W15 : ClsW K cc cE (cc 15) 15 := ⟨⟨obK_excI w0, ya15, yb15, yc15, yd15, yf15, y6, y7⟩, exm_of xE qe15 qn15, by decide, fun i hi => match i, hi with | 0, _ => q15_0 | 1, _ => q15_1 | 2, _ => q15_2 | 3, _ => q15_3 | 4, _ => q15_4 | 5, _ => q15_5 | 6, _ => q15_6 | 7, _ => q15_7 | 8, _ => q15_8 | 9, _ => q15_9 | 10, _ => q15_10 | 11, _ => q15_11 | 12, _ => q15_12 | 13, _ => q15_13 | 14, _ => q15_14 | 15, _ => kit_self | n + 16, h => absurd h (by omega), qv15⟩
 have cA : ExcA K C15 := ⟨w3, w4, w5, yb15, yc15, yf15⟩
 have ZZ : Cls3 K cc cE := ⟨W5, W6, W7, W8, W15, ⟨cA, n1, n2⟩⟩
 have M : ExcI K C15 fI := ⟨w0, eI, w1, w2⟩
 have FI := fun_mk (st := sInit) lI cI kI
 have bI := FI.binds (ps := ["self", "many", "most"]) fun _ _ _ _ _ _ us hl => match us, hl with | [_, _, _], _ => rfl
 have F0 := fun_mk (st := sNumber) l0 c0 k0
 have m0 := PySem.W.mg_of X G a0
 have b0 := F0.binds (ps := ["thing"]) fun _ _ _ _ _ _ us hl => match us, hl with | [_], _ => rfl
 have F1 := fun_mk (st := sWithin) l1 c1 k1
 have m1 := PySem.W.mg_of X G a1
 have b1 := F1.binds (ps := ["thing", "least", "most"]) fun _ _ _ _ _ _ us hl => match us, hl with | [_, _, _], _ => rfl
 have F2 := fun_mk (st := sTuple) l2 c2 k2
 have m2 := PySem.W.mg_of X G a2
 have b2 := F2.binds (ps := ["thing", "least", "most"]) fun _ _ _ _ _ _ us hl => match us, hl with | [_, _, _], _ => rfl
 have F3 := fun_mk (st := sRising) l3 c3 k3
 have m3 := PySem.W.mg_of X G a3
 have b3 := F3.binds (ps := ["things"]) fun _ _ _ _ _ _ us hl => match us, hl with | [_], _ => rfl
 have F4 := fun_mk (st := sClaim) l4 c4 k4
 have m4 := PySem.W.mg_of X G a4
 have b4 := F4.binds (ps := ["thing"]) fun _ _ _ _ _ _ us hl => match us, hl with | [_], _ => rfl
 have F5 := fun_mk (st := sClaims) l5 c5 k5
 have m5 := PySem.W.mg_of X G a5
 have b5 := F5.binds (ps := ["thing"]) fun _ _ _ _ _ _ us hl => match us, hl with | [_], _ => rfl
 have F6 := fun_mk (st := sChkClaim) l6 c6 k6
 have m6 := PySem.W.mg_of X G a6
 have b6 := F6.binds (ps := ["claim"]) fun _ _ _ _ _ _ us hl => match us, hl with | [_], _ => rfl
 have F7 := fun_mk (st := sChkClaims) l7 c7 k7
 have m7 := PySem.W.mg_of X G a7
 have b7 := F7.binds (ps := ["claims"]) fun _ _ _ _ _ _ us hl => match us, hl with | [_], _ => rfl
 have F8 := fun_mk (st := sIsHolder) l8 c8 k8
 have m8 := PySem.W.mg_of X G a8
 have b8 := F8.binds (ps := ["claims", "thing"]) fun _ _ _ _ _ _ us hl => match us, hl with | [_, _], _ => rfl
 have F9 := fun_mk (st := sChkHolder) l9 c9 k9
 have m9 := PySem.W.mg_of X G a9
 have b9 := F9.binds (ps := ["claims", "holder"]) fun _ _ _ _ _ _ us hl => match us, hl with | [_, _], _ => rfl
 have F10 := fun_mk (st := sTwo) l10 c10 k10
 have m10 := PySem.W.mg_of X G a10
 have b10 := F10.binds (ps := ["claims", "one", "other"]) fun _ _ _ _ _ _ us hl => match us, hl with | [_, _, _], _ => rfl
 have F11 := fun_mk (st := sLaid) l11 c11 k11
 have m11 := PySem.W.mg_of X G a11
 have b11 := F11.binds (ps := ["claims", "claim"]) fun _ _ _ _ _ _ us hl => match us, hl with | [_, _], _ => rfl
 have F12 := fun_mk (st := sDenied) l12 c12 k12
 have m12 := PySem.W.mg_of X G a12
 have b12 := F12.binds (ps := ["claims", "claim"]) fun _ _ _ _ _ _ us hl => match us, hl with | [_, _], _ => rfl
 have F13 := fun_mk (st := sRights) l13 c13 k13
 have m13 := PySem.W.mg_of X G a13
 have b13 := F13.binds (ps := ["claims", "holders", "sort"]) fun _ _ _ _ _ _ us hl => match us, hl with | [_, _, _], _ => rfl
 have F14 := fun_mk (st := sJoined) l14 c14 k14
 have m14 := PySem.W.mg_of X G a14
 have b14 := F14.binds (ps := ["claims", "one", "other"]) fun _ _ _ _ _ _ us hl => match us, hl with | [_, _, _], _ => rfl
 have F15 := fun_mk (st := sCell) l15 c15 k15
 have m15 := PySem.W.mg_of X G a15
 have b15 := F15.binds (ps := ["_law_script", "_law_k"]) fun _ _ _ _ _ _ us hl => match us, hl with | [_, _], _ => rfl
 have F16 := fun_mk (st := sPen) l16 c16 k16
 have m16 := PySem.W.mg_of X G a16
 have b16 := F16.binds (ps := ["_law_cell_here"]) fun _ _ _ _ _ _ us hl => match us, hl with | [_], _ => rfl
 have F17 := fun_mk (st := sDraw) l17 c17 k17
 have m17 := PySem.W.mg_of X G a17
 have b17 := F17.binds (ps := ["_law_pen_here", "_law_bound"]) fun _ _ _ _ _ _ us hl => match us, hl with | [_, _], _ => rfl
 have F18 := fun_mk (st := sPick) l18 c18 k18
 have m18 := PySem.W.mg_of X G a18
 have b18 := F18.binds (ps := ["_law_pen_here", "_law_things"]) fun _ _ _ _ _ _ us hl => match us, hl with | [_, _], _ => rfl
 have F19 := fun_mk (st := sMixed) l19 c19 k19
 have m19 := PySem.W.mg_of X G a19
 have b19 := F19.binds (ps := ["_law_pen_here", "_law_things"]) fun _ _ _ _ _ _ us hl => match us, hl with | [_, _], _ => rfl
 have F20 := fun_mk (st := sSame) l20 c20 k20
 have m20 := PySem.W.mg_of X G a20
 have b20 := F20.binds (ps := ["_law_told", "_law_due"]) fun _ _ _ _ _ _ us hl => match us, hl with | [_, _], _ => rfl
 have F21 := fun_mk (st := sWord) l21 c21 k21
 have m21 := PySem.W.mg_of X G a21
 have b21 := F21.binds (ps := ["_law_e"]) fun _ _ _ _ _ _ us hl => match us, hl with | [_], _ => rfl
 have F22 := fun_mk (st := sCame) l22 c22 k22
 have m22 := PySem.W.mg_of X G a22
 have b22 := F22.binds (ps := ["_law_call"]) fun _ _ _ _ _ _ us hl => match us, hl with | [_], _ => rfl
 have F23 := fun_mk (st := sClaimsL) l23 c23 k23
 have m23 := PySem.W.mg_of X G a23
 have b23 := F23.binds (ps := ["_law_pen_here", "_law_custom", "_law_holders_here"]) fun _ _ _ _ _ _ us hl => match us, hl with | [_, _, _], _ => rfl
 have F24 := fun_mk (st := sHolders) l24 c24 k24
 have m24 := PySem.W.mg_of X G a24
 have b24 := F24.binds (ps := ["_law_claims_here"]) fun _ _ _ _ _ _ us hl => match us, hl with | [_], _ => rfl
 have F25 := fun_mk (st := sLaidL) l25 c25 k25
 have m25 := PySem.W.mg_of X G a25
 have b25 := F25.binds (ps := ["_law_claims_here", "_law_claim"]) fun _ _ _ _ _ _ us hl => match us, hl with | [_, _], _ => rfl
 have F26 := fun_mk (st := sDeniedL) l26 c26 k26
 have m26 := PySem.W.mg_of X G a26
 have b26 := F26.binds (ps := ["_law_claims_here", "_law_claim"]) fun _ _ _ _ _ _ us hl => match us, hl with | [_, _], _ => rfl
 have F27 := fun_mk (st := sJoinedL) l27 c27 k27
 have m27 := PySem.W.mg_of X G a27
 have b27 := F27.binds (ps := ["_law_claims_here", "_law_one", "_law_other"]) fun _ _ _ _ _ _ us hl => match us, hl with | [_, _, _], _ => rfl
 have F28 := fun_mk (st := sFull) l28 c28 k28
 have m28 := PySem.W.mg_of X G a28
 have b28 := F28.binds (ps := ["_law_pen_here"]) fun _ _ _ _ _ _ us hl => match us, hl with | [_], _ => rfl
 have F29 := fun_mk (st := sLaw) l29 c29 k29
 have m29 := PySem.W.mg_of X G a29
 refine ⟨PySem.W.fnOf "law" "law" (defArgs sLaw) (defBody sLaw) (defScope sLaw) .none kV29 dc29 pm29 an29 (.ref cL) ct29, fun s v => .of_eq rfl, fun base _ _ hCH hBM => ?_⟩
 have gI : FnOk l.prog w K mg base CX0 1 fI _ ["self", "many", "most"] (spInit C15) := ok_init FI cA n1 n2
 have g0 : FnOk l.prog w K mg base CX0 1 f0 _ ["thing"] spNumber := ok_number F0 T'
 have g1 : FnOk l.prog w K mg base CX0 2 f1 _ ["thing", "least", "most"] spWithin := ok_within F1 T' F0 b0 m0
 have g2 : FnOk l.prog w K mg base CX0 1 f2 _ ["thing", "least", "most"] spTuple := ok_tuple F2 T'
 have g3 : FnOk l.prog w K mg base CX0 1 f3 _ ["things"] spRising := ok_rising F3 T'
 have g4 : FnOk l.prog w K mg base CX0 3 f4 _ ["thing"] spClaim := ok_claim F4 T' ⟨m2, k2, b2, g2⟩ ⟨m1, k1, b1, g1⟩
 have g5 : FnOk l.prog w K mg base CX0 4 f5 _ ["thing"] spClaims := ok_claims F5 T' ⟨m2, k2, b2, g2⟩ ⟨m4, k4, b4, g4⟩ ⟨m3, k3, b3, g3⟩
 have g6 : FnOk l.prog w K mg base CX0 4 f6 _ ["claim"] spChkClaim := ok_chkClaim F6 ⟨m4, k4, b4, g4⟩
 have g7 : FnOk l.prog w K mg base CX0 5 f7 _ ["claims"] spChkClaims := ok_chkClaims F7 ⟨m5, k5, b5, g5⟩
 have g8 : FnOk l.prog w K mg base CX0 2 f8 _ ["claims", "thing"] spIsHolder := ok_isHolder F8 T' ⟨m0, k0, b0, g0⟩
 have g9 : FnOk l.prog w K mg base (CXD l.prog w) 3 f9 _ ["claims", "holder"] (spChkHolder C6) := ok_chkHolder F9 ⟨m8, k8, b8, g8⟩ NN.m6 ⟨xx6⟩
 have g10 : FnOk l.prog w K mg base (CXD l.prog w) 4 f10 _ ["claims", "one", "other"] (spTwo C6) := ok_two F10 ⟨m9, k9, b9, g9⟩ NN.m6 ⟨xx6⟩
 have g11 : FnOk l.prog w K mg base (CXD l.prog w) 6 f11 _ ["claims", "claim"] (spLaid C15 C7) := ok_laid F11 T' ⟨m7, k7, b7, g7⟩ ⟨m6, k6, b6, g6⟩ NN.m7 ⟨xx7⟩ NN.m15 M bI gI
 have g12 : FnOk l.prog w K mg base (CXD l.prog w) 6 f12 _ ["claims", "claim"] (spDenied C8 C5) := ok_denied F12 T' ⟨m7, k7, b7, g7⟩ ⟨m6, k6, b6, g6⟩ NN.m8 ⟨xx8⟩ NN.m5 ⟨xx5⟩
 have g13 : FnOk l.prog w K mg base CX0 1 f13 _ ["claims", "holders", "sort"] spRights := ok_rights F13 T'
 have g14 : FnOk l.prog w K mg base (CXD l.prog w) 6 f14 _ ["claims", "one", "other"] (spJoined C15 C6) := ok_joined F14 T' ⟨m7, k7, b7, g7⟩ ⟨m10, k10, b10, g10⟩ ⟨m13, k13, b13, g13⟩ NN.m15 M bI gI
 have g15 : FnOk l.prog w K mg base CX0 1 f15 _ ["_law_script", "_law_k"] (spCell K) := ok_cell F15 T'
 have g16 : FnOk l.prog w K mg base CX0 1 f16 _ ["_law_cell_here"] spPen := ok_pen F16 T'
 have g17 : FnOk l.prog w K mg base CX0 1 f17 _ ["_law_pen_here", "_law_bound"] spDraw := ok_draw F17 T'
 have g18 : FnOk l.prog w K mg base CX0 2 f18 _ ["_law_pen_here", "_law_things"] spPick := ok_pick F18 T' ⟨m17, k17, b17, g17⟩
 have gPT : FnOk l.prog w K mg base CX0 2 f18 _ ["_law_pen_here", "_law_things"] spPickT := ok_pickT F18 T' ⟨m17, k17, b17, g17⟩
 have g19 : FnOk l.prog w K mg base CX0 2 f19 _ ["_law_pen_here", "_law_things"] spMixed := ok_mixed F19 T' ⟨m17, k17, b17, g17⟩
 have g20 : FnOk l.prog w K mg base CX0 4 f20 _ ["_law_told", "_law_due"] (spSame 3) := ok_same F20 T' m20 b20 3
 have g21 : FnOkP l.prog w K mg base 2 f21 _ ["_law_e"] (spWord K cc cE) := ok_word F21 T' NN
 have g22 : FnOkS l.prog w K mg base 8 f22 _ ["_law_call"] (spCame l.prog w K mg base cc cE) := ok_came F22 T' (PySem.W.mg_of X G eE) NN m21 k21 b21 g21
 have g23 : FnOk l.prog w K mg base CX0 3 f23 _ ["_law_pen_here", "_law_custom", "_law_holders_here"] spClaimsL := ok_claimsL F23 T' ⟨m17, k17, b17, g17⟩ ⟨m18, k18, b18, g18⟩
 have g24 : FnOk l.prog w K mg base CX0 1 f24 _ ["_law_claims_here"] spHolders := ok_holders F24 T'
 have g25 : FnOk l.prog w K mg base CX0 1 f25 _ ["_law_claims_here", "_law_claim"] spLaidL := ok_laidL F25 T'
 have g26 : FnOk l.prog w K mg base CX0 1 f26 _ ["_law_claims_here", "_law_claim"] spDeniedL := ok_deniedL F26 T'
 have g27 : FnOk l.prog w K mg base CX0 2 f27 _ ["_law_claims_here", "_law_one", "_law_other"] spJoinedL := ok_joinedL F27 T' ⟨m24, k24, b24, g24⟩
 have g28 : FnOk l.prog w K mg base CX0 3 f28 _ ["_law_pen_here"] spFull := ok_full F28 T' ⟨m17, k17, b17, g17⟩ ⟨m19, k19, b19, g19⟩
 exact ok_law F29 rfl T' hCH hBM ⟨ZZ, ⟨_, _, ⟨m15, k15, b15, g15⟩⟩, ⟨_, _, ⟨m16, k16, b16, g16⟩⟩, ⟨_, _, ⟨m17, k17, b17, g17⟩⟩, ⟨_, _, ⟨m18, k18, b18, g18⟩⟩, ⟨_, _, m18, k18, b18, gPT⟩, ⟨_, _, ⟨m23, k23, b23, g23⟩⟩, ⟨_, _, ⟨m28, k28, b28, g28⟩⟩, ⟨_, _, ⟨m20, k20, b20, g20⟩⟩, ⟨_, _, ⟨m25, k25, b25, g25⟩⟩, ⟨_, _, ⟨m26, k26, b26, g26⟩⟩, ⟨_, _, ⟨m27, k27, b27, g27⟩⟩, ⟨_, _, ⟨m11, k11, b11, g11⟩⟩, ⟨_, _, ⟨m12, k12, b12, g12⟩⟩, ⟨_, _, ⟨m14, k14, b14, g14⟩⟩, ⟨_, _, m22, k22, b22, g22⟩⟩
theorem walk {l : PySem.W.OpenLaw} {q : Program} {loose : List Str} {XP : (Str → Option Value) → Heap → Prop} {YP : World → Heap → Prop} {d : DefRec} {K : Params → PySem.W.Frag} {c T : Addr} (hn : l.most = some 63) (hdf : d.params.defaults = [])
  (hY : ∀ (w : World) (h : Heap), YP w h → (K w.params).In h ∧ h.get? T = some (PySem.W.tabObj #[])) 
  (F : ∀ (w : World) (mg : Str → Option Value) (fa : Addr) (h : Heap), (K w.params).In h → h.Ns mainGlobals mg → mg d.name = some (.ref fa) →
   ∃ fd : FuncData, (∀ (s : Shared) (u : Value), BindsTo s fd ⟨[u], []⟩ [("_law_script", u)]) ∧ ∀ base : Heap, (K w.params).In base → base.Ns mainGlobals mg → PySem.W.CodeHd base c T → BMain mg base → FnOk l.prog w (K w.params) mg base CX0 9 fa fd ["_law_script"] (spLaw (K w.params) T))
  (hKT : ∀ w : World, (K w.params).lookup T = none) (hKC : ∀ w : World, PySem.W.codeHdIn (K w.params) c T = true) :
  PySem.W.WalkO q loose XP YP l.row.toRowW d [] (fun f vs => PySem.call f vs) :=
 L2.walk_ofT (n := 63) (k := 9) (x := "_law_script") (sp := fun w => spLaw (K w.params) T) hn (by decide) hdf ⟨rfl, by decide, by decide, rfl⟩ hY hKT hKC F (fun _ _ a ns hl hT hS => ⟨a, ns, rfl, hS, hT, hl, fun _ => rfl⟩)
end M03
open PySem PySem.W PyProof.Rows
namespace PySem.W.Fast
theorem tw2555980668724102564:True:=⟨⟩
theorem tw8688067886517042004:True:=⟨⟩
theorem tw17388176333548723658:True:=⟨⟩
theorem tw17972879266702851872:True:=⟨⟩
theorem tw4840178142528451390:True:=⟨⟩
theorem tw6923885531520918277:True:=⟨⟩
theorem tw3717980388477039665:True:=⟨⟩
theorem tw13205386138944310874:True:=⟨⟩
theorem tw12658616268253661273:True:=⟨⟩
theorem tw4912501005487920093:True:=⟨⟩
theorem tw16988068614955217446:True:=⟨⟩
theorem tw15615695511590009783:True:=⟨⟩
theorem tw15476382762093631000:True:=⟨⟩
theorem tw10079526275571897164:True:=⟨⟩
theorem tw401121102875184699:True:=⟨⟩
theorem tw8862270415787425247:True:=⟨⟩
theorem tw1385517300234920520:True:=⟨⟩
theorem tw8661584793971850294:True:=⟨⟩
theorem tw3285766059603407891:True:=⟨⟩
theorem tw1414372795166592846:True:=⟨⟩
theorem tw12700930568567645183:True:=⟨⟩
theorem tw4008088111406163427:True:=⟨⟩
theorem tw15813782545449958013:True:=⟨⟩
theorem tw2326777956105445782:True:=⟨⟩
theorem tw427654491626841741:True:=⟨⟩
theorem tw2020451900807724730:True:=⟨⟩
theorem tw4920210544324608968:True:=⟨⟩
theorem tw13033366456691370287:True:=⟨⟩
theorem tw5396443580380109262:True:=⟨⟩
theorem tw17708186488714871307:True:=⟨⟩
theorem tw290253939284256572:True:=⟨⟩
theorem tw10792934499944442134:True:=⟨⟩
theorem tw17088175413138237114:True:=⟨⟩
theorem tw8522318363158225808:True:=⟨⟩
theorem tw14246672948548104366:True:=⟨⟩
theorem tw5080572241619812367:True:=⟨⟩
theorem tw193268608981677131:True:=⟨⟩
theorem tw13757761045857563682:True:=⟨⟩
theorem tw3962226567511536706:True:=⟨⟩
theorem tw13205513459222104326:True:=⟨⟩
theorem tw10660637724562084275:True:=⟨⟩
theorem tw17980158123701536532:True:=⟨⟩
theorem tw13592469252653442140:True:=⟨⟩
theorem tw14962955591246520718:True:=⟨⟩
theorem tw2700253698509621290:True:=⟨⟩
theorem tw13179610584727594271:True:=⟨⟩
theorem tw14498729072712448442:True:=⟨⟩
theorem tw15671458788400709853:True:=⟨⟩
theorem tw14783798208145084184:True:=⟨⟩
theorem tw13545190978111774657:True:=⟨⟩
theorem tw4852047660250414661:True:=⟨⟩
theorem tw15909232704000560316:True:=⟨⟩
theorem tw1064829700410328124:True:=⟨⟩
theorem tw1635060789793074285:True:=⟨⟩
theorem tw11810255966031134633:True:=⟨⟩
theorem tw8460471027106906044:True:=⟨⟩
theorem tw16928657016806529795:True:=⟨⟩
theorem tw3690922191088368342:True:=⟨⟩
theorem tw14077732866221522196:True:=⟨⟩
theorem tw6396817754754636589:True:=⟨⟩
theorem tw3001218867510226893:True:=⟨⟩
theorem tw6246830972678488832:True:=⟨⟩
theorem tw13123262851638684605:True:=⟨⟩
theorem tw16978479389606901958:True:=⟨⟩
theorem tw1414574538376258537:True:=⟨⟩
theorem tw5708395568718654432:True:=⟨⟩
theorem tw2212620129961603863:True:=⟨⟩
theorem tw16780560667912740356:True:=⟨⟩
theorem tw1096204222566057378:True:=⟨⟩
theorem tw11285254158556654935:True:=⟨⟩
theorem tw5638324216497098821:True:=⟨⟩
theorem tw11863081827761917568:True:=⟨⟩
theorem tw7621082473413774262:True:=⟨⟩
theorem tw11220572311806666020:True:=⟨⟩
theorem tw189517408227978291:True:=⟨⟩
theorem tw15962961913716752768:True:=⟨⟩
theorem tw7186824071303712860:True:=⟨⟩
theorem tw11643329055049313089:True:=⟨⟩
theorem tw1913201147879561860:True:=⟨⟩
theorem tw7335047989580185155:True:=⟨⟩
theorem tw17465131319327838265:True:=⟨⟩
theorem tw436969085639003714:True:=⟨⟩
theorem tw11737824411216834864:True:=⟨⟩
theorem tw1651774825962215483:True:=⟨⟩
theorem tw6225413976931898352:True:=⟨⟩
theorem tw5237397834213038043:True:=⟨⟩
theorem tw14215533101999441019:True:=⟨⟩
theorem tw6670886939876490480:True:=⟨⟩
theorem tw16828900750922741756:True:=⟨⟩
theorem tw2049538769511455863:True:=⟨⟩
theorem tw12486015534521374687:True:=⟨⟩
theorem tw17425068986953042531:True:=⟨⟩
theorem tw4521911605436510281:True:=⟨⟩
theorem tw1026941265251214248:True:=⟨⟩
theorem tw13809943229629637929:True:=⟨⟩
theorem tw17442641029852603493:True:=⟨⟩
theorem tw3287715596473454437:True:=⟨⟩
theorem tw10418340721460426542:True:=⟨⟩
theorem tw11684302702216068157:True:=⟨⟩
theorem tw5302744452496974810:True:=⟨⟩
theorem tw9083502278908877260:True:=⟨⟩
theorem tw11166276444447465928:True:=⟨⟩
theorem tw4947730012291874205:True:=⟨⟩
theorem tw1205269384630537707:True:=⟨⟩
theorem tw17053651918558349996:True:=⟨⟩
theorem tw5250356579879461356:True:=⟨⟩
theorem tw14693256547841238853:True:=⟨⟩
theorem tw14608724517827442908:True:=⟨⟩
theorem tw8487945237361783493:True:=⟨⟩
theorem tw8528884832645327885:True:=⟨⟩
theorem tw5047161229392929949:True:=⟨⟩
theorem tw9052430194524031232:True:=⟨⟩
theorem tw10849270402247441764:True:=⟨⟩
theorem tw1573242735450649746:True:=⟨⟩
theorem tw9884043488292772671:True:=⟨⟩
theorem tw13651571543836637679:True:=⟨⟩
theorem tw16063518698563223778:True:=⟨⟩
theorem tw12438898777547026752:True:=⟨⟩
theorem tw3777087611479477524:True:=⟨⟩
theorem tw8124355126954124474:True:=⟨⟩
theorem tw7919403618413948905:True:=⟨⟩
theorem tw11962810302707432403:True:=⟨⟩
theorem tw12952032106591453114:True:=⟨⟩
theorem tw11027893617092211343:True:=⟨⟩
theorem tw3190049796846150098:True:=⟨⟩
theorem tw13488327020449913211:True:=⟨⟩
theorem tw5948804339540933835:True:=⟨⟩
theorem tw579459962995888377:True:=⟨⟩
theorem tw15014754024371817316:True:=⟨⟩
theorem tw15668836635290687653:True:=⟨⟩
theorem tw13628267712794540404:True:=⟨⟩
theorem tw7338115180064853074:True:=⟨⟩
theorem tw1796960763773260880:True:=⟨⟩
theorem tw1957504900157650165:True:=⟨⟩
theorem tw1838123866553047687:True:=⟨⟩
theorem tw4427233982761803622:True:=⟨⟩
theorem tw5808664529851309191:True:=⟨⟩
theorem tw16636537663743595294:True:=⟨⟩
theorem tw6773003790789028154:True:=⟨⟩
theorem tw7258013502467701147:True:=⟨⟩
theorem tw620062799448690691:True:=⟨⟩
theorem tw13439603501040612026:True:=⟨⟩
theorem tw18232367484024619155:True:=⟨⟩
theorem tw14143295505698734584:True:=⟨⟩
theorem tw16901457175224652242:True:=⟨⟩
theorem tw12020302441325768410:True:=⟨⟩
theorem tw15044470353617876974:True:=⟨⟩
theorem tw7370416017912574762:True:=⟨⟩
theorem tw2302090019771184361:True:=⟨⟩
theorem tw9427638058373880858:True:=⟨⟩
theorem tw9041934085188709001:True:=⟨⟩
theorem tw3338685662682789892:True:=⟨⟩
theorem tw5531128945168435046:True:=⟨⟩
theorem tw9770240167921834661:True:=⟨⟩
theorem tw1007450396762555829:True:=⟨⟩
theorem tw4610147004443112186:True:=⟨⟩
theorem tw4755907172045162934:True:=⟨⟩
theorem tw11976316106747630337:True:=⟨⟩
theorem tw14767450257133626592:True:=⟨⟩
theorem tw9262412661802525536:True:=⟨⟩
theorem tw4654853816144765758:True:=⟨⟩
theorem tw16698751859257559729:True:=⟨⟩
theorem tw7690240009442724105:True:=⟨⟩
theorem tw5626346840948151694:True:=⟨⟩
theorem tw12720135265329963430:True:=⟨⟩
theorem tw5718677515997202753:True:=⟨⟩
theorem tw16705076212437872630:True:=⟨⟩
theorem tw17834887543441533380:True:=⟨⟩
theorem tw4593260618204874624:True:=⟨⟩
theorem tw13343451620845254632:True:=⟨⟩
theorem tw4795692191501278247:True:=⟨⟩
theorem tw5807168878365901551:True:=⟨⟩
theorem tw14355151239129194164:True:=⟨⟩
theorem tw16538895730509935231:True:=⟨⟩
theorem tw9429518412633392642:True:=⟨⟩
theorem tw14477203222784613966:True:=⟨⟩
theorem tw5705181656477166568:True:=⟨⟩
theorem tw7839132887753972741:True:=⟨⟩
theorem tw13036889669453860599:True:=⟨⟩
theorem tw14507966907587610919:True:=⟨⟩
theorem tw13526054030416568590:True:=⟨⟩
theorem tw2057101775774568895:True:=⟨⟩
theorem tw5793713598663548535:True:=⟨⟩
theorem tw9959806935155868728:True:=⟨⟩
theorem tw9046662779118715479:True:=⟨⟩
theorem tw17335234130230909889:True:=⟨⟩
theorem tw13094886985611322190:True:=⟨⟩
theorem tw2826356651507107556:True:=⟨⟩
theorem tw3129270118239401793:True:=⟨⟩
theorem tw7466050331393563795:True:=⟨⟩
theorem tw17733624851888466811:True:=⟨⟩
theorem tw9107918672194647726:True:=⟨⟩
theorem tw1865503090515215905:True:=⟨⟩
theorem tw17347088971450301758:True:=⟨⟩
theorem tw15461698115748163870:True:=⟨⟩
theorem tw8187899593471335008:True:=⟨⟩
theorem tw17575032505590343409:True:=⟨⟩
theorem tw6228120420817824462:True:=⟨⟩
theorem tw10127412854880904433:True:=⟨⟩
theorem tw9421952205743911107:True:=⟨⟩
theorem tw11364763421450145825:True:=⟨⟩
theorem tw9421697738301798350:True:=⟨⟩
theorem tw6218104604335543512:True:=⟨⟩
theorem tw15018683069850905877:True:=⟨⟩
theorem tw10208455900828524533:True:=⟨⟩
theorem tw3305067167978131633:True:=⟨⟩
theorem tw2807219097829364928:True:=⟨⟩
theorem tw5860929214323713054:True:=⟨⟩
theorem tw17825248230068418761:True:=⟨⟩
theorem tw9536132793450551867:True:=⟨⟩
theorem tw3713740066813153578:True:=⟨⟩
theorem tw8944399252822493981:True:=⟨⟩
theorem tw13255803302618722182:True:=⟨⟩
theorem tw17761323924612173159:True:=⟨⟩
theorem tw17890342970864401326:True:=⟨⟩
theorem tw16229350580738264285:True:=⟨⟩
theorem tw13936252389932851558:True:=⟨⟩
theorem tw7934434440855970153:True:=⟨⟩
theorem tw16396888059358979019:True:=⟨⟩
theorem tw2942649778466083939:True:=⟨⟩
theorem tw7032789556491322554:True:=⟨⟩
theorem tw8129986751202314303:True:=⟨⟩
theorem tw17356244169839831919:True:=⟨⟩
theorem tw15773770695640025898:True:=⟨⟩
theorem tw1534323144752250386:True:=⟨⟩
theorem tw8600905500558186396:True:=⟨⟩
theorem tw12431926416204470517:True:=⟨⟩
theorem tw11888808991113225715:True:=⟨⟩
theorem tw18123279582608636213:True:=⟨⟩
theorem tw2758041244689875518:True:=⟨⟩
theorem tw4107556833590030214:True:=⟨⟩
theorem tw16983424428381961445:True:=⟨⟩
theorem tw17033536968476998786:True:=⟨⟩
theorem tw756560429095552464:True:=⟨⟩
theorem tw18365574823280577142:True:=⟨⟩
theorem tw2617901482764913811:True:=⟨⟩
theorem tw794251379027534302:True:=⟨⟩
theorem tw8036366952198359619:True:=⟨⟩
theorem tw5797326443166622343:True:=⟨⟩
theorem tw353917312652745594:True:=⟨⟩
theorem tw7683646753602586990:True:=⟨⟩
theorem tw15645689771685842630:True:=⟨⟩
theorem tw7638851907851677143:True:=⟨⟩
theorem tw13736612765456884800:True:=⟨⟩
theorem tw17373966483744008755:True:=⟨⟩
theorem tw9565734549877308396:True:=⟨⟩
theorem tw11109909867817214842:True:=⟨⟩
theorem tw17019883545003807726:True:=⟨⟩
theorem tw1177413933664202667:True:=⟨⟩
theorem tw5180156288597560571:True:=⟨⟩
theorem tw2525650010195365829:True:=⟨⟩
theorem tw1321154568029676611:True:=⟨⟩
theorem tw807225104211029552:True:=⟨⟩
theorem tw11743267176527522595:True:=⟨⟩
theorem tw17621885543836262619:True:=⟨⟩
theorem tw9432210002447941859:True:=⟨⟩
theorem tw5525049113385132729:True:=⟨⟩
theorem tw17784609606923973918:True:=⟨⟩
theorem tw5506299724638323897:True:=⟨⟩
theorem tw16611564261082014495:True:=⟨⟩
theorem tw4052680440746712375:True:=⟨⟩
theorem tw198346828548192658:True:=⟨⟩
theorem tw12419416328645428956:True:=⟨⟩
theorem tw11203280185188343891:True:=⟨⟩
theorem tw10856590518287931465:True:=⟨⟩
theorem tw16437582320379409055:True:=⟨⟩
theorem tw14618772015856794406:True:=⟨⟩
theorem tw2174167795432054561:True:=⟨⟩
theorem tw15171429069885992614:True:=⟨⟩
theorem tw16670144768672271501:True:=⟨⟩
theorem tw10831427095471281848:True:=⟨⟩
theorem tw9189171640620158890:True:=⟨⟩
theorem tw10061296234640850157:True:=⟨⟩
theorem tw16122369915269253560:True:=⟨⟩
theorem tw17102455578303483547:True:=⟨⟩
theorem tw11603429288668545344:True:=⟨⟩
theorem tw1718758103580913089:True:=⟨⟩
theorem tw12655554063890430499:True:=⟨⟩
theorem tw12918092259894129275:True:=⟨⟩
theorem tw4554907191625835214:True:=⟨⟩
theorem tw15065985984597800661:True:=⟨⟩
theorem tw18109757347050720941:True:=⟨⟩
theorem tw10712929341125353166:True:=⟨⟩
theorem tw3924403295547540550:True:=⟨⟩
theorem tw11347062397383414327:True:=⟨⟩
theorem tw1918613611173515235:True:=⟨⟩
theorem tw11289759060752881923:True:=⟨⟩
theorem tw9751770414604535359:True:=⟨⟩
theorem tw6223932334579569592:True:=⟨⟩
theorem tw17149860681355460399:True:=⟨⟩
theorem tw1016977816132349243:True:=⟨⟩
theorem tw9307749817897115620:True:=⟨⟩
theorem tw4309223961346054384:True:=⟨⟩
theorem tw584211534773533269:True:=⟨⟩
theorem tw5391332166072661820:True:=⟨⟩
theorem tw11234872910996989426:True:=⟨⟩
theorem tw3116488348260083182:True:=⟨⟩
theorem tw14514395689758270854:True:=⟨⟩
theorem tw1889386025694341497:True:=⟨⟩
theorem tw4704448103129451264:True:=⟨⟩
theorem tw5402973252860676351:True:=⟨⟩
theorem tw8473508985802849925:True:=⟨⟩
theorem tw11510226628774697505:True:=⟨⟩
theorem tw18406810926923638810:True:=⟨⟩
theorem tw12088897129606839976:True:=⟨⟩
theorem tw13814513830888564543:True:=⟨⟩
theorem tw7996720106065013404:True:=⟨⟩
theorem tw1202023503217773395:True:=⟨⟩
theorem tw7636895267793408605:True:=⟨⟩
theorem tw17138237630969126961:True:=⟨⟩
theorem tw14608826444111968075:True:=⟨⟩
theorem tw13854673407982566200:True:=⟨⟩
theorem tw15667598261551396136:True:=⟨⟩
theorem tw5830279149057560236:True:=⟨⟩
theorem tw6796421572045721475:True:=⟨⟩
theorem tw1632017044799646062:True:=⟨⟩
theorem tw14693441660822004758:True:=⟨⟩
theorem tw14753866802066275574:True:=⟨⟩
theorem tw10081885352308521747:True:=⟨⟩
theorem tw1639021029580991649:True:=⟨⟩
theorem tw8618275693056767374:True:=⟨⟩
theorem tw13062559625012384209:True:=⟨⟩
theorem tw18007469615611747724:True:=⟨⟩
theorem tw17706016591471789039:True:=⟨⟩
theorem tw9308644904883202331:True:=⟨⟩
theorem tw12047260546165010777:True:=⟨⟩
theorem tw9827149731785975322:True:=⟨⟩
theorem tw4954820288482200712:True:=⟨⟩
theorem tw4357306267788887595:True:=⟨⟩
theorem tw6202750101811831273:True:=⟨⟩
theorem tw6357180843859389463:True:=⟨⟩
theorem tw928496642643942337:True:=⟨⟩
theorem tw10021473681323034803:True:=⟨⟩
theorem tw16295893452648800138:True:=⟨⟩
theorem tw4407853304020962831:True:=⟨⟩
theorem tw15239165553452322731:True:=⟨⟩
theorem tw2440907841338747679:True:=⟨⟩
theorem tw7070026368036554383:True:=⟨⟩
theorem tw8685159382850610546:True:=⟨⟩
theorem tw3104677218526557246:True:=⟨⟩
theorem tw4295813103085604044:True:=⟨⟩
theorem tw5480626960419367458:True:=⟨⟩
theorem tw16726528234957152942:True:=⟨⟩
theorem tw3299043255369408758:True:=⟨⟩
theorem tw5544250351813954222:True:=⟨⟩
theorem tw13491265500632465646:True:=⟨⟩
theorem tw12727993780712198732:True:=⟨⟩
theorem tw7416605260418197109:True:=⟨⟩
theorem tw1852262134867934852:True:=⟨⟩
theorem tw90762951049865920:True:=⟨⟩
theorem tw457162728790588815:True:=⟨⟩
theorem tw13259665209009382110:True:=⟨⟩
theorem tw14377008673179101105:True:=⟨⟩
theorem tw14298887824875370838:True:=⟨⟩
theorem tw16476945819490932345:True:=⟨⟩
theorem tw8087122940239410614:True:=⟨⟩
theorem tw14865372323803909742:True:=⟨⟩
theorem tw4103312103166706096:True:=⟨⟩
theorem tw14731771146835914709:True:=⟨⟩
theorem tw2422888704456879328:True:=⟨⟩
theorem tw16028134004943520088:True:=⟨⟩
theorem tw11819610485136180433:True:=⟨⟩
theorem tw245070933870503120:True:=⟨⟩
theorem tw11105536104559421387:True:=⟨⟩
theorem tw13072682965201117620:True:=⟨⟩
theorem tw10839023839079675008:True:=⟨⟩
theorem tw7217955274521308758:True:=⟨⟩
theorem tw18052618779652079809:True:=⟨⟩
theorem tw9599728441995664358:True:=⟨⟩
theorem tw13149420620976183334:True:=⟨⟩
theorem tw16248071774003586676:True:=⟨⟩
theorem tw10889243268072185792:True:=⟨⟩
theorem tw6088164217965227688:True:=⟨⟩
theorem tw2649471194196628133:True:=⟨⟩
theorem tw13811959892316686448:True:=⟨⟩
theorem tw1847374528569354838:True:=⟨⟩
theorem tw9493258790689476880:True:=⟨⟩
theorem tw3478009571308722725:True:=⟨⟩
theorem tw10072944601944775395:True:=⟨⟩
theorem tw16253094538479321991:True:=⟨⟩
theorem tw7282629163576301407:True:=⟨⟩
theorem tw1543342940488737767:True:=⟨⟩
theorem tw6476211380371173886:True:=⟨⟩
theorem tw16077930858235978572:True:=⟨⟩
theorem tw3107272006472297103:True:=⟨⟩
theorem tw507011022974286387:True:=⟨⟩
theorem tw6819181193618273068:True:=⟨⟩
theorem tw12863513755264653359:True:=⟨⟩
theorem tw13844166563211609203:True:=⟨⟩
theorem tw12464173657609273396:True:=⟨⟩
theorem tw3449027619367639919:True:=⟨⟩
theorem tw8780792720971744038:True:=⟨⟩
theorem tw10740121769310926656:True:=⟨⟩
theorem tw17720645812418713442:True:=⟨⟩
theorem tw653890229962853430:True:=⟨⟩
theorem tw5372065708810600434:True:=⟨⟩
theorem tw11608156189409389687:True:=⟨⟩
theorem tw4922634921055913583:True:=⟨⟩
theorem tw4396833016613723251:True:=⟨⟩
theorem tw159128028641045233:True:=⟨⟩
theorem tw16660278485306280084:True:=⟨⟩
theorem tw7537671434427837820:True:=⟨⟩
theorem tw1606662053341221158:True:=⟨⟩
theorem tw12651209644748844056:True:=⟨⟩
theorem tw8403272872038862673:True:=⟨⟩
theorem tw7776237362379267065:True:=⟨⟩
theorem tw9694970062855464558:True:=⟨⟩
theorem tw6093073936070006503:True:=⟨⟩
theorem tw4693413000995742542:True:=⟨⟩
theorem tw1034858302227491079:True:=⟨⟩
theorem tw15084469246846522777:True:=⟨⟩
theorem tw16759674699114813184:True:=⟨⟩
theorem tw2667873158604235861:True:=⟨⟩
theorem tw16078842390897381344:True:=⟨⟩
theorem tw13461697422032183559:True:=⟨⟩
theorem tw9689156007868859176:True:=⟨⟩
theorem tw15045295364006100161:True:=⟨⟩
theorem tw7999385511067623592:True:=⟨⟩
theorem tw3895399166919227262:True:=⟨⟩
theorem tw7917467780562106247:True:=⟨⟩
theorem tw5755244922843545116:True:=⟨⟩
theorem tw16929831431504394935:True:=⟨⟩
theorem tw216626956073320041:True:=⟨⟩
theorem tw3053865893650238001:True:=⟨⟩
theorem tw9247654231610038092:True:=⟨⟩
theorem tw11507084832481251868:True:=⟨⟩
theorem tw17007409410069978565:True:=⟨⟩
theorem tw13969678998788617327:True:=⟨⟩
theorem tw15885919620122951004:True:=⟨⟩
theorem tw15492956322737305195:True:=⟨⟩
end PySem.W.Fast
set_option maxRecDepth 100000 in
set_option maxHeartbeats 0 in
theorem PySem.Challenge.cw_meadshares_k03_laid_denied_joined_holds : PySem.Challenge.rw_meadshares_k03_laid_denied_joined.Holds := by
 w_on; o_law; k_head; (case hw => w_witness2)
 k_fill
 refine' M03.walk (l := PySem.Challenge.rw_meadshares_k03_laid_denied_joined) rfl rfl (T := 403) (fun w h Y => ⟨PySem.W.km_in_of Y, PySem.W.km_tabs_of Y 403 (List.mem_cons_self)⟩) ?F ?KT ?KC
 case F =>
  intro w mg fa h KX G hmg
  refine' M03.all_mk KX G hmg ?a0 ?l0 ?c0 ?k0 ?a1 ?l1 ?c1 ?k1 ?a2 ?l2 ?c2 ?k2 ?a3 ?l3 ?c3 ?k3 ?a4 ?l4 ?c4 ?k4 ?a5 ?l5 ?c5 ?k5 ?a6 ?l6 ?c6 ?k6 ?a7 ?l7 ?c7 ?k7 ?a8 ?l8 ?c8 ?k8 ?a9 ?l9 ?c9 ?k9 ?a10 ?l10 ?c10 ?k10 ?a11 ?l11 ?c11 ?k11 ?a12 ?l12 ?c12 ?k12 ?a13 ?l13 ?c13 ?k13 ?a14 ?l14 ?c14 ?k14 ?a15 ?l15 ?c15 ?k15 ?a16 ?l16 ?c16 ?k16 ?a17 ?l17 ?c17 ?k17 ?a18 ?l18 ?c18 ?k18 ?a19 ?l19 ?c19 ?k19 ?a20 ?l20 ?c20 ?k20 ?a21 ?l21 ?c21 ?k21 ?a22 ?l22 ?c22 ?k22 ?a23 ?l23 ?c23 ?k23 ?a24 ?l24 ?c24 ?k24 ?a25 ?l25 ?c25 ?k25 ?a26 ?l26 ?c26 ?k26 ?a27 ?l27 ?c27 ?k27 ?a28 ?l28 ?c28 ?k28 ?a29 ?l29 ?c29 ?k29 ?v0 ?v1 ?v2 ?v3 ?z0 ?z1 ?z2 ?z3 ?z4 ?z5 ?z6 ?z7 ?z8 ?z9 ?z10 ?z11 ?z12 ?z13 ?z14 ?eE ?e0 ?e1 ?e2 ?e3 ?e4 ?e5 ?e6 ?e7 ?e8 ?e9 ?e10 ?e11 ?e12 ?e13 ?e14 ?e15 ?xE ?xx5 ?q5_0 ?q5_1 ?q5_2 ?q5_3 ?q5_4 ?q5_6 ?q5_7 ?q5_8 ?q5_9 ?q5_10 ?q5_11 ?q5_12 ?q5_13 ?q5_14 ?q5_15 ?qv5 ?qe5 ?qn5 ?ya5 ?yb5 ?yc5 ?yd5 ?yf5 ?xx6 ?q6_0 ?q6_1 ?q6_2 ?q6_3 ?q6_4 ?q6_5 ?q6_7 ?q6_8 ?q6_9 ?q6_10 ?q6_11 ?q6_12 ?q6_13 ?q6_14 ?q6_15 ?qv6 ?qe6 ?qn6 ?ya6 ?yb6 ?yc6 ?yd6 ?yf6 ?xx7 ?q7_0 ?q7_1 ?q7_2 ?q7_3 ?q7_4 ?q7_5 ?q7_6 ?q7_8 ?q7_9 ?q7_10 ?q7_11 ?q7_12 ?q7_13 ?q7_14 ?q7_15 ?qv7 ?qe7 ?qn7 ?ya7 ?yb7 ?yc7 ?yd7 ?yf7 ?xx8 ?q8_0 ?q8_1 ?q8_2 ?q8_3 ?q8_4 ?q8_5 ?q8_6 ?q8_7 ?q8_9 ?q8_10 ?q8_11 ?q8_12 ?q8_13 ?q8_14 ?q8_15 ?qv8 ?qe8 ?qn8 ?ya8 ?yb8 ?yc8 ?yd8 ?yf8 ?q15_0 ?q15_1 ?q15_2 ?q15_3 ?q15_4 ?q15_5 ?q15_6 ?q15_7 ?q15_8 ?q15_9 ?q15_10 ?q15_11 ?q15_12 ?q15_13 ?q15_14 ?qv15 ?qe15 ?qn15 ?ya15 ?yb15 ?yc15 ?yd15 ?yf15 ?y6 ?y7 ?eI ?lI ?cI ?kI ?w0 ?w1 ?w2 ?w3 ?w4 ?w5 ?n1 ?n2
  (case a0 => k_is)
  (case l0 => k_is)
  (case c0 => k_is)
  (case k0 => k_is)
  (case a1 => k_is)
  (case l1 => k_is)
  (case c1 => k_is)
  (case k1 => k_is)
  (case a2 => k_is)
  (case l2 => k_is)
  (case c2 => k_is)
  (case k2 => k_is)
  (case a3 => k_is)
  (case l3 => k_is)
  (case c3 => k_is)
  (case k3 => k_is)
  (case a4 => k_is)
  (case l4 => k_is)
  (case c4 => k_is)
  (case k4 => k_is)
  (case a5 => k_is)
  (case l5 => k_is)
  (case c5 => k_is)
  (case k5 => k_is)
  (case a6 => k_is)
  (case l6 => k_is)
  (case c6 => k_is)
  (case k6 => k_is)
  (case a7 => k_is)
  (case l7 => k_is)
  (case c7 => k_is)
  (case k7 => k_is)
  (case a8 => k_is)
  (case l8 => k_is)
  (case c8 => k_is)
  (case k8 => k_is)
  (case a9 => k_is)
  (case l9 => k_is)
  (case c9 => k_is)
  (case k9 => k_is)
  (case a10 => k_is)
  (case l10 => k_is)
  (case c10 => k_is)
  (case k10 => k_is)
  (case a11 => k_is)
  (case l11 => k_is)
  (case c11 => k_is)
  (case k11 => k_is)
  (case a12 => k_is)
  (case l12 => k_is)
  (case c12 => k_is)
  (case k12 => k_is)
  (case a13 => k_is)
  (case l13 => k_is)
  (case c13 => k_is)
  (case k13 => k_is)
  (case a14 => k_is)
  (case l14 => k_is)
  (case c14 => k_is)
  (case k14 => k_is)
  (case a15 => k_is)
  (case l15 => k_is)
  (case c15 => k_is)
  (case k15 => k_is)
  (case a16 => k_is)
  (case l16 => k_is)
  (case c16 => k_is)
  (case k16 => k_is)
  (case a17 => k_is)
  (case l17 => k_is)
  (case c17 => k_is)
  (case k17 => k_is)
  (case a18 => k_is)
  (case l18 => k_is)
  (case c18 => k_is)
  (case k18 => k_is)
  (case a19 => k_is)
  (case l19 => k_is)
  (case c19 => k_is)
  (case k19 => k_is)
  (case a20 => k_is)
  (case l20 => k_is)
  (case c20 => k_is)
  (case k20 => k_is)
  (case a21 => k_is)
  (case l21 => k_is)
  (case c21 => k_is)
  (case k21 => k_is)
  (case a22 => k_is)
  (case l22 => k_is)
  (case c22 => k_is)
  (case k22 => k_is)
  (case a23 => k_is)
  (case l23 => k_is)
  (case c23 => k_is)
  (case k23 => k_is)
  (case a24 => k_is)
  (case l24 => k_is)
  (case c24 => k_is)
  (case k24 => k_is)
  (case a25 => k_is)
  (case l25 => k_is)
  (case c25 => k_is)
  (case k25 => k_is)
  (case a26 => k_is)
  (case l26 => k_is)
  (case c26 => k_is)
  (case k26 => k_is)
  (case a27 => k_is)
  (case l27 => k_is)
  (case c27 => k_is)
  (case k27 => k_is)
  (case a28 => k_is)
  (case l28 => k_is)
  (case c28 => k_is)
  (case k28 => k_is)
  (case a29 => k_is)
  (case l29 => k_is)
  (case c29 => k_is)
  (case k29 => k_is)
  (case v0 => k_is)
  (case v1 => k_is)
  (case v2 => k_is)
  (case v3 => k_is)
  (case z0 => k_is)
  (case z1 => k_is)
  (case z2 => k_is)
  (case z3 => k_is)
  (case z4 => k_is)
  (case z5 => k_is)
  (case z6 => k_is)
  (case z7 => k_is)
  (case z8 => k_is)
  (case z9 => k_is)
  (case z10 => k_is)
  (case z11 => k_is)
  (case z12 => k_is)
  (case z13 => k_is)
  (case z14 => k_is)
  (case eE => k_is)
  (case e0 => k_is)
  (case e1 => k_is)
  (case e2 => k_is)
  (case e3 => k_is)
  (case e4 => k_is)
  (case e5 => k_is)
  (case e6 => k_is)
  (case e7 => k_is)
  (case e8 => k_is)
  (case e9 => k_is)
  (case e10 => k_is)
  (case e11 => k_is)
  (case e12 => k_is)
  (case e13 => k_is)
  (case e14 => k_is)
  (case e15 => k_is)
  (case xE => k_is)
  (case xx5 => k_exc)
  (case q5_0 => kit_is)
  (case q5_1 => kit_is)
  (case q5_2 => kit_is)
  (case q5_3 => kit_is)
  (case q5_4 => kit_is)
  (case q5_6 => kit_is)
  (case q5_7 => kit_is)
  (case q5_8 => kit_is)
  (case q5_9 => kit_is)
  (case q5_10 => kit_is)
  (case q5_11 => kit_is)
  (case q5_12 => kit_is)
  (case q5_13 => kit_is)
  (case q5_14 => kit_is)
  (case q5_15 => kit_is)
  (case qv5 => kit_is)
  (case qe5 => kit_is)
  (case qn5 => rfl)
  (case ya5 => k_is)
  (case yb5 => k_is)
  (case yc5 => k_is)
  (case yd5 => k_is)
  (case yf5 => k_is)
  (case xx6 => k_exc)
  (case q6_0 => kit_is)
  (case q6_1 => kit_is)
  (case q6_2 => kit_is)
  (case q6_3 => kit_is)
  (case q6_4 => kit_is)
  (case q6_5 => kit_is)
  (case q6_7 => kit_is)
  (case q6_8 => kit_is)
  (case q6_9 => kit_is)
  (case q6_10 => kit_is)
  (case q6_11 => kit_is)
  (case q6_12 => kit_is)
  (case q6_13 => kit_is)
  (case q6_14 => kit_is)
  (case q6_15 => kit_is)
  (case qv6 => kit_is)
  (case qe6 => kit_is)
  (case qn6 => rfl)
  (case ya6 => k_is)
  (case yb6 => k_is)
  (case yc6 => k_is)
  (case yd6 => k_is)
  (case yf6 => k_is)
  (case xx7 => k_exc)
  (case q7_0 => kit_is)
  (case q7_1 => kit_is)
  (case q7_2 => kit_is)
  (case q7_3 => kit_is)
  (case q7_4 => kit_is)
  (case q7_5 => kit_is)
  (case q7_6 => kit_is)
  (case q7_8 => kit_is)
  (case q7_9 => kit_is)
  (case q7_10 => kit_is)
  (case q7_11 => kit_is)
  (case q7_12 => kit_is)
  (case q7_13 => kit_is)
  (case q7_14 => kit_is)
  (case q7_15 => kit_is)
  (case qv7 => kit_is)
  (case qe7 => kit_is)
  (case qn7 => rfl)
  (case ya7 => k_is)
  (case yb7 => k_is)
  (case yc7 => k_is)
  (case yd7 => k_is)
  (case yf7 => k_is)
  (case xx8 => k_exc)
  (case q8_0 => kit_is)
  (case q8_1 => kit_is)
  (case q8_2 => kit_is)
  (case q8_3 => kit_is)
  (case q8_4 => kit_is)
  (case q8_5 => kit_is)
  (case q8_6 => kit_is)
  (case q8_7 => kit_is)
  (case q8_9 => kit_is)
  (case q8_10 => kit_is)
  (case q8_11 => kit_is)
  (case q8_12 => kit_is)
  (case q8_13 => kit_is)
  (case q8_14 => kit_is)
  (case q8_15 => kit_is)
  (case qv8 => kit_is)
  (case qe8 => kit_is)
  (case qn8 => rfl)
  (case ya8 => k_is)
  (case yb8 => k_is)
  (case yc8 => k_is)
  (case yd8 => k_is)
  (case yf8 => k_is)
  (case q15_0 => kit_is)
  (case q15_1 => kit_is)
  (case q15_2 => kit_is)
  (case q15_3 => kit_is)
  (case q15_4 => kit_is)
  (case q15_5 => kit_is)
  (case q15_6 => kit_is)
  (case q15_7 => kit_is)
  (case q15_8 => kit_is)
  (case q15_9 => kit_is)
  (case q15_10 => kit_is)
  (case q15_11 => kit_is)
  (case q15_12 => kit_is)
  (case q15_13 => kit_is)
  (case q15_14 => kit_is)
  (case qv15 => kit_is)
  (case qe15 => kit_is)
  (case qn15 => rfl)
  (case ya15 => k_is)
  (case yb15 => k_is)
  (case yc15 => k_is)
  (case yd15 => k_is)
  (case yf15 => k_is)
  (case y6 => k_is)
  (case y7 => k_is)
  (case eI => k_is)
  (case lI => k_is)
  (case cI => k_is)
  (case kI => k_is)
  (case w0 => kernel_rfl)
  (case w1 => kernel_rfl)
  (case w2 => k_is)
  (case w3 => k_is)
  (case w4 => kernel_rfl)
  (case w5 => kernel_rfl)
  (case n1 => k_is)
  (case n2 => k_is)
 case KT => intro w; first | rfl | kernel_rfl | k_is
 case KC => intro w; first | kernel_rfl | k_is | rfl
