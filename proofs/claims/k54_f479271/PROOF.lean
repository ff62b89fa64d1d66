import PyProof.Rows.All
import Wide.All
import OpenK.AllK
import Wide.FinOn
import Lean
import PyProof.EqAt
import PyProof.EqKinds
import PyProof.TupleCall
import KE.LcSums
import KE.KDictOf
import PyProof.ZipIter
import PyProof.DictItems
import KE.KSortTup
import KE.KTryMore
import PyProof.StrCalls2
import PyProof.StrBlockL
import PyProof.SliceStr2
import PyProof.FitsReplace
import PyProof.StrLawsOcc
import KE.KIntText
import PyProof.StrWalks
import PyProof.StrLawsIn
import KE.IntTextLaws
import PyProof.NeKinds
import PyProof.StrLawsChain
import KE.KLam
import KE.RegKIsAll
import PySem.Challenge.RW_meadshares_k54_texts
set_option Elab.async false
set_option linter.all false
set_option maxRecDepth 100000
local macro_rules | `(tactic| omega) => `(tactic| lia)
namespace L2
open PySem PySem.Spec PyProof.Rows
noncomputable abbrev Key := Sum Int Str
noncomputable def keyIs : Key → Value → Bool
  | .inl k, v => Value.isInt k v
  | .inr x, v => Value.isStrOf x v
noncomputable def keyH (w : World) : Key → Int
  | .inl k => hashInt k
  | .inr x => hashStr w x
theorem keyIs_shape : ∀ {k : Key} {v : Value}, keyIs k v = true → (∃ i t, k = Sum.inl i ∧ v = Value.int i t) ∨ (∃ x t, k = Sum.inr x ∧ v = Value.str x t)
  | .inl i, v, h => by
    obtain ⟨t, e⟩ := Value.isInt_shape (k := i) (v := v) h
    exact .inl ⟨i, t, rfl, e⟩
  | .inr x, v, h => by
    obtain ⟨t, e⟩ := Value.isStrOf_shape (x := x) (v := v) h
    exact .inr ⟨x, t, rfl, e⟩
theorem keyIs_int (i : Int) (t : Tok) : keyIs (.inl i) (.int i t) = true := by simp [keyIs, Value.isInt]
theorem keyIs_str (x : Str) (t : Tok) : keyIs (.inr x) (.str x t) = true := by simp [keyIs, Value.isStrOf]
theorem key_ll (a b : Int) : decide ((Sum.inl a : Key) = Sum.inl b) = (a == b) := by
  by_cases e : a = b
  · subst e; simp
  · have h : ¬ (Sum.inl a : Key) = Sum.inl b := fun q => e (Sum.inl.inj q)
    rw [decide_eq_false h]
    exact (beq_eq_false_iff_ne.mpr e).symm
theorem key_rr (a b : Str) : decide ((Sum.inr a : Key) = Sum.inr b) = decide (a = b) := by
  by_cases e : a = b
  · subst e; simp
  · have h : ¬ (Sum.inr a : Key) = Sum.inr b := fun q => e (Sum.inr.inj q)
    rw [decide_eq_false h, decide_eq_false e]
theorem key_lr (a : Int) (b : Str) : decide ((Sum.inl a : Key) = Sum.inr b) = false := decide_eq_false (fun q => nomatch q)
theorem key_rl (a : Str) (b : Int) : decide ((Sum.inr a : Key) = Sum.inl b) = false := decide_eq_false (fun q => nomatch q)
noncomputable def mixKind (prog : Program) (w : World) : PySem.KeyKind prog w Key where
  is := keyIs
  hash := keyH w
  inj := fun v a b ha hb => by
    rcases keyIs_shape ha with ⟨i, t, rfl, rfl⟩ | ⟨x, t, rfl, rfl⟩
    · rcases keyIs_shape hb with ⟨j, u, rfl, e⟩ | ⟨y, u, rfl, e⟩
      · injection e with e1 _; rw [e1]
      · exact nomatch e
    · rcases keyIs_shape hb with ⟨j, u, rfl, e⟩ | ⟨y, u, rfl, e⟩
      · exact nomatch e
      · injection e with e1 _; rw [e1]
  byValue := fun k v h => by
    rcases keyIs_shape h with ⟨i, t, rfl, rfl⟩ | ⟨x, t, rfl, rfl⟩ <;> rfl
  pyHash := fun hv h => by
    rcases keyIs_shape hv with ⟨i, t, rfl, rfl⟩ | ⟨x, t, rfl, rfl⟩
    · exact wpAny_pyHash_int h
    · exact wpAny_pyHash_str h
  eqBool := fun hu hv h => by
    rcases keyIs_shape hu with ⟨i, t, rfl, rfl⟩ | ⟨x, t, rfl, rfl⟩
    · rcases keyIs_shape hv with ⟨j, u, rfl, rfl⟩ | ⟨y, u, rfl, rfl⟩
      · rw [key_ll] at h; exact wpAny_eqBool_int h
      · rw [key_lr] at h; exact SeqAt.EqAt.int_str i t y u _ _ _ _ h
    · rcases keyIs_shape hv with ⟨j, u, rfl, rfl⟩ | ⟨y, u, rfl, rfl⟩
      · rw [key_rl] at h; exact SeqAt.EqAt.str_int x t j u _ _ _ _ h
      · rw [key_rr] at h; exact wpAny_eqBool_str h
  «strs» := fun k x t v h => by
    rcases keyIs_shape h with ⟨i, u, rfl, e⟩ | ⟨y, u, rfl, e⟩
    · exact nomatch e
    · injection e with e1 _
      subst e1
      cases v <;> rfl
theorem mixKind_int (prog : Program) (w : World) (i : Int) (t : Tok) : (mixKind prog w).is (.inl i) (.int i t) = true := keyIs_int i t
theorem mixKind_str (prog : Program) (w : World) (x : Str) (t : Tok) : (mixKind prog w).is (.inr x) (.str x t) = true := keyIs_str x t
end L2
namespace L2
open PySem PySem.Spec PyProof.Rows
inductive V where
  | non | bl (b : Bool) | int (i : Int) | str (x : Str) | byt (b : Array UInt8) | flt (b : UInt64) | ref (a : Addr) | ty (n : String)
  deriving DecidableEq
noncomputable def RelV : V → Value → Prop
  | .non, u => u = Value.none
  | .bl b, u => u = Value.bool b
  | .int i, u => ∃ t, u = Value.int i t
  | .str x, u => ∃ t, u = Value.str x t
  | .byt b, u => ∃ t, u = Value.bytes b t
  | .flt b, u => ∃ t, u = Value.float b t
  | .ref a, u => u = Value.ref a
  | .ty n, u => u = Value.type n
noncomputable abbrev Vals : List V → List Value → Prop := Paired RelV
theorem Vals.length {xs : List V} {us : List Value} (r : Vals xs us) : xs.length = us.length := Paired.length r
theorem Vals.get : ∀ {xs : List V} {us : List Value} {i : Nat} {x : V}, Vals xs us → xs[i]? = some x → ∃ u, us[i]? = some u ∧ RelV x u
  | _, _, _, _, .nil, e => by simp at e
  | _, _, 0, _, .cons r _, e => by simp at e; subst e; exact ⟨_, rfl, r⟩
  | _, _, i + 1, x, .cons _ t, e => by
    obtain ⟨u, h1, h2⟩ := Vals.get (i := i) (x := x) t (by simpa using e)
    exact ⟨u, by simpa using h1, h2⟩
theorem Vals.set {x : V} {u : Value} (r : RelV x u) : ∀ {xs : List V} {us : List Value} (i : Nat), Vals xs us → Vals (xs.set i x) (us.set i u)
  | _, _, _, .nil => .nil
  | _, _, 0, .cons _ t => .cons r t
  | _, _, i + 1, .cons q t => .cons q (Vals.set r i t)
theorem Vals.append : ∀ {xs ys : List V} {us ws : List Value}, Vals xs us → Vals ys ws → Vals (xs ++ ys) (us ++ ws)
  | _, _, _, _, .nil, s => s
  | _, _, _, _, .cons r t, s => .cons r (Vals.append t s)
theorem Vals.take : ∀ {xs : List V} {us : List Value} (n : Nat), Vals xs us → Vals (xs.take n) (us.take n)
  | _, _, 0, _ => .nil
  | _, _, _ + 1, .nil => .nil
  | _, _, n + 1, .cons r t => .cons r (Vals.take n t)
theorem Vals.drop : ∀ {xs : List V} {us : List Value} (n : Nat), Vals xs us → Vals (xs.drop n) (us.drop n)
  | _, _, 0, r => r
  | _, _, _ + 1, .nil => .nil
  | _, _, n + 1, .cons _ t => Vals.drop n t
noncomputable def RelO : Option V → Option Value → Prop
  | some v, some u => RelV v u
  | none, none => True
  | _, _ => False
noncomputable def KV {κ : Type} : List (κ × V) → List (κ × Value) → Prop := Paired fun (p : κ × V) (q : κ × Value) => p.1 = q.1 ∧ RelV p.2 q.2
noncomputable def kV : Key → V
  | .inl i => .int i
  | .inr x => .str x
inductive HO where
    | lst (xs : List V)
    | tup (xs : List V)
    | dK (kvs : List (Key × V)) | dT (kvs : List (List Key × V))
    | set (S : Int → Bool) (n : Nat)
    | ins (C dx : Addr) (fs : List (Str × V))
    | own (x : Addr)
    | xd (fs : List (Str × V))
    | met (f x : Addr)
    | rng (lo hi : Int)
    | frz (o : Obj) (u : HO)
    | tbl (ps : Array Value)
    | ext (φ : Heap → Prop)
noncomputable abbrev Hp := Addr → Option HO
noncomputable def upd (H : Hp) (a : Addr) (o : HO) : Hp := fun b => if b = a then some o else H b
theorem upd_same {H : Hp} {a : Addr} {o : HO} : upd H a o a = some o := by unfold upd; rw [if_pos rfl]
theorem upd_ne {H : Hp} {a b : Addr} {o : HO} (h : b ≠ a) : upd H a o b = H b := by unfold upd; rw [if_neg h]
theorem ne_of {H : Hp} {a b : Addr} {o u : HO} (h : H a = some o) (h' : H b = some u) (d : o ≠ u) : a ≠ b := by
  intro e; subst e; rw [h] at h'; exact d (Option.some.inj h')
theorem ne_of_none {H : Hp} {a b : Addr} {o : HO} (h : H a = some o) (h' : H b = none) : a ≠ b := by
  intro e; subst e; rw [h] at h'; cases h'
section
variable (P : Program) (w : World)
noncomputable def ObjOk (H : Hp) (h : Heap) (a : Addr) : HO → Prop
  | .lst xs => xs.length ≤ sizeLine ∧ ∃ (its : List Value) (n : Nat), Vals xs its ∧ h.get? a = some { cls := .type "list", data := .seq its.toArray n }
  | .tup xs => xs.length ≤ sizeLine ∧ ∃ its : List Value, Vals xs its ∧ IsTup h a its.toArray
  | .dK kvs => kvs.length ≤ sizeLine ∧ (a == sysModules) = false ∧ ∃ vs, KV kvs vs ∧ h.DictOf (mixKind P w) a vs
  | .dT kvs => kvs.length ≤ sizeLine ∧ (a == sysModules) = false ∧ ∃ xs : List (List Key × Addr × Value),
      Paired (fun (p : List Key × V) (q : List Key × Addr × Value) => p.1 = q.1 ∧ H q.2.1 = some (.tup (p.1.map kV)) ∧ RelV p.2 q.2.2) kvs xs ∧
      ∃ o es ep, h.get? a = some o ∧ o.ExactDict ∧ o.data = .dict es ep ∧ es.toList = xs.map (entryOfKey (tupleKind (mixKind P w))) ∧ (xs.map (·.1)).Nodup
  | .set S n => h.SetOf (intKind P w) a S n
  | .ins C dx fs => H dx = some (.own a) ∧ fs.length ≤ 1000 ∧ dx ≠ a ∧ h.get? a = some (PySem.W.instObj C dx) ∧
      ∃ mA, h.Ns1 dx mA ∧ (∀ f, RelO (fs.lookup f) (mA f)) ∧ PySem.Within mA (fs.map (·.1))
  | .own _ => ∃ o, h.get? a = some o
  | .xd fs => ∃ mA, h.Ns1 a mA ∧ ∀ f, RelO (fs.lookup f) (mA f)
  | .rng lo hi => ∃ t u v, h.get? a = some { cls := .type "range", data := .fields #[.int lo t, .int hi u, .int 1 v] }
  | .frz o u => h.get? a = some o ∧ ObjOk H h a u
  | .tbl ps => h.get? a = some { cls := .none, data := .fields ps }
  | .met f x => h.get? a = some (PySem.W.methodObj (.ref f) (.ref x))
  | .ext φ => φ h ∧ (∃ o, h.get? a = some o) ∧ ∀ h1 h2 : Heap, φ h1 → (∀ o, h1.get? a = some o → h2.get? a = some o) → φ h2
noncomputable def HOk (H : Hp) (h : Heap) : Prop := ∀ a o, H a = some o → ObjOk P w H h a o
end
section
variable {P : Program} {w : World} {H H' : Hp} {h h' : Heap} {a : Addr} {o : HO}
theorem ObjOk.lt (x : ObjOk P w H h a o) : a < h.objs.size := by
  cases o with
  | lst xs => obtain ⟨_, _, _, _, e⟩ := x; exact Heap.lt_size e
  | tup xs => obtain ⟨_, _, _, p⟩ := x; exact p.lt
  | dK kvs => obtain ⟨_, _, _, _, o, _, _, e, _⟩ := x; exact Heap.lt_size e
  | dT kvs => obtain ⟨_, _, _, _, o, _, _, e, _⟩ := x; exact Heap.lt_size e
  | set S n => obtain ⟨o, _, _, _, e, _⟩ := x; exact Heap.lt_size e
  | ins C dx fs => obtain ⟨_, _, _, e, _⟩ := x; exact Heap.lt_size e
  | own y => obtain ⟨_, e⟩ := x; exact Heap.lt_size e
  | xd fs => obtain ⟨_, ⟨_, _, _, e, _⟩, _⟩ := x; exact Heap.lt_size e
  | rng lo hi => obtain ⟨_, _, _, e⟩ := x; exact Heap.lt_size e
  | frz ob u => obtain ⟨e, _⟩ := x; exact Heap.lt_size e
  | tbl ps => exact Heap.lt_size (show h.get? a = some _ from x)
  | met f y => exact Heap.lt_size (show h.get? a = some _ from x)
  | ext φ => obtain ⟨_, ⟨_, e⟩, _⟩ := x; exact Heap.lt_size e
theorem Paired.mapP {α β : Type} {F G : α → β → Prop} : ∀ {l₁ : List α} {l₂ : List β}, Paired F l₁ l₂ → (∀ a b, F a b → G a b) → Paired G l₁ l₂
  | _, _, .nil, _ => .nil
  | _, _, .cons r t, f => .cons (f _ _ r) (Paired.mapP t f)
theorem ObjOk.stay (x : ObjOk P w H h a o) (k : ∀ b u, (b = a ∨ H b = some (.own a)) → h.get? b = some u → h'.get? b = some u)
    (ho : ∀ b, H b = some (.own a) → H' b = some (.own a)) (ht : ∀ b xs, H b = some (.tup xs) → H' b = some (.tup xs)) : ObjOk P w H' h' a o := by
  induction o with
  | lst xs => obtain ⟨z, its, n, r, e⟩ := x; exact ⟨z, its, n, r, k _ _ (.inl rfl) e⟩
  | tup xs => obtain ⟨z, its, r, ob, e, c⟩ := x; exact ⟨z, its, r, ob, k _ _ (.inl rfl) e, c⟩
  | dK kvs => obtain ⟨z, y, vs, r, ob, es, ep, e, c⟩ := x; exact ⟨z, y, vs, r, ob, es, ep, k _ _ (.inl rfl) e, c⟩
  | dT kvs =>
    obtain ⟨z, y, xs, r, ob, es, ep, e, c⟩ := x
    exact ⟨z, y, xs, Paired.mapP r fun p q z => ⟨z.1, ht _ _ z.2.1, z.2.2⟩, ob, es, ep, k _ _ (.inl rfl) e, c⟩
  | set S n => obtain ⟨ob, es, ep, t, e, c⟩ := x; exact ⟨ob, es, ep, t, k _ _ (.inl rfl) e, c⟩
  | ins C dx fs =>
    obtain ⟨d, z, ne, e, mA, ⟨od, es, ep, e2, c⟩, r⟩ := x
    exact ⟨ho _ d, z, ne, k _ _ (.inl rfl) e, mA, ⟨od, es, ep, k _ _ (.inr d) e2, c⟩, r⟩
  | own y => obtain ⟨ob, e⟩ := x; exact ⟨ob, k _ _ (.inl rfl) e⟩
  | xd fs => obtain ⟨mA, ⟨od, es, ep, e, c⟩, r⟩ := x; exact ⟨mA, ⟨od, es, ep, k _ _ (.inl rfl) e, c⟩, r⟩
  | rng lo hi => obtain ⟨t, u, v, e⟩ := x; exact ⟨t, u, v, k _ _ (.inl rfl) e⟩
  | frz ob u ih => obtain ⟨e, q⟩ := x; exact ⟨k _ _ (.inl rfl) e, ih q⟩
  | tbl ps =>
    have e : h.get? a = some { cls := .none, data := .fields ps } := x
    show h'.get? a = some { cls := .none, data := .fields ps }
    exact k a _ (.inl rfl) e
  | met f y =>
    have e : h.get? a = some (PySem.W.methodObj (.ref f) (.ref y)) := x
    show h'.get? a = some (PySem.W.methodObj (.ref f) (.ref y))
    exact k a _ (.inl rfl) e
  | ext φ => obtain ⟨p, ⟨o, e⟩, st⟩ := x; exact ⟨st _ _ p fun o q => k _ _ (.inl rfl) q, ⟨o, k _ _ (.inl rfl) e⟩, st⟩
theorem HOk.lt (x : HOk P w H h) (e : H a = some o) : a < h.objs.size := (x a o e).lt
theorem HOk.fresh (x : HOk P w H h) (e : h.objs.size ≤ a) : H a = none := by
  cases q : H a with
  | none => rfl
  | some u => exact absurd (Nat.lt_of_lt_of_le (x.lt q) e) (Nat.lt_irrefl _)
theorem HOk.kept (x : HOk P w H h) (k : ∀ b u, h.get? b = some u → h'.get? b = some u) : HOk P w H h' := fun a o e =>
  (x a o e).stay (fun b u _ q => k b u q) (fun _ q => q) fun _ _ q => q
theorem HOk.laid (x : HOk P w H h) (k : ∀ b u, h.get? b = some u → h'.get? b = some u) (hp : h.objs.size ≤ a) (new : ObjOk P w (upd H a o) h' a o) : HOk P w (upd H a o) h' := fun b u e => by
  have hn := x.fresh hp
  by_cases hb : b = a
  · subst hb; rw [upd_same] at e; cases e; exact new
  · rw [upd_ne hb] at e
    exact (x b u e).stay (fun c v _ q => k c v q) (fun c q => by rw [upd_ne (ne_of_none q hn)]; exact q) fun c xs q => by rw [upd_ne (ne_of_none q hn)]; exact q
end
noncomputable def Rd (H : Hp) (a : Addr) (u : HO) : Prop := H a = some u ∨ ∃ o, H a = some (.frz o u)
theorem Rd.ok {P : Program} {w : World} {H : Hp} {h : Heap} {a : Addr} {u : HO} (r : Rd H a u) (x : HOk P w H h) : ObjOk P w H h a u := by
  rcases r with r | ⟨o, r⟩
  · exact x a u r
  · obtain ⟨_, q⟩ := x a _ r
    exact q
noncomputable def Mut : Option HO → Prop
  | some (.lst _) => True
  | some (.dK _) => True
  | some (.dT _) => True
  | some (.set _ _) => True
  | some (.ins _ _ _) => True
  | some (.ext _) => True
  | _ => False
section
variable {P : Program} {w : World} {H : Hp} {h h' : Heap} {x e : Addr} {o' : HO}
theorem HOk.write (ok : HOk P w H h) (mu : Mut (H x)) (he : e = x ∨ H e = some (.own x)) (k : ∀ b u, b ≠ e → h.get? b = some u → h'.get? b = some u) (heo : ∃ u, h'.get? e = some u)
    (new : ObjOk P w (upd H x o') h' x o') : HOk P w (upd H x o') h' := fun b u q => by
  have nown : ∀ c y, H c = some (.own y) → c ≠ x := fun c y r z => by subst z; rw [r] at mu; exact mu
  have ntup : ∀ c xs, H c = some (.tup xs) → c ≠ x := fun c xs r z => by subst z; rw [r] at mu; exact mu
  by_cases hb : b = x
  · subst hb; rw [upd_same] at q; cases q; exact new
  · rw [upd_ne hb] at q
    by_cases hbe : b = e
    · have q' : H b = some (.own x) := by
        rcases he with z | z
        · exact absurd (hbe.trans z) hb
        · rw [hbe]; exact z
      rw [q] at q'; cases q'
      obtain ⟨v, hv⟩ := heo
      exact ⟨v, by rw [hbe]; exact hv⟩
    · refine (ok b u q).stay (fun c v hc r => k c v ?_ r) (fun c r => by rw [upd_ne (nown c b r)]; exact r) fun c xs r => by rw [upd_ne (ntup c xs r)]; exact r
      rcases hc with rfl | hc
      · exact hbe
      · rintro rfl
        rcases he with z | z
        · exact nown c b hc z
        · rw [hc] at z; cases z; exact hb rfl
end
structure Un (fs ex : List Addr) (H H' : Hp) (h h' : Heap) : Prop where
  keep : ∀ b o, h.get? b = some o → H b = none → b ∉ fs → b ∉ ex → h'.get? b = some o
  slot : ∀ b o, h.get? b = some o → H b = none → b ∈ fs → b ∉ ex → ∃ sl, h'.get? b = some { o with slots := sl }
  free : ∀ b o, h.get? b = some o → H b = none → b ∉ ex → H' b = none
  there : ∀ b o, h.get? b = some o → b ∉ ex → ∃ o', h'.get? b = some o'
  tups : ∀ b xs, H b = some (.tup xs) → H' b = some (.tup xs)
  frzs : ∀ b o u, H b = some (.frz o u) → H' b = some (.frz o u)
  tbls : ∀ b ps, H b = some (.tbl ps) → ∃ more, H' b = some (.tbl (ps ++ more))
section
variable {fs fs' ex ex' : List Addr} {H H1 H2 : Hp} {h h1 h2 h' : Heap} {a x e : Addr} {o : HO}
theorem Un.any (u : Un fs ex H H1 h h1) {b : Addr} {ob : Obj} (q : h.get? b = some ob) (n : H b = none) (hx : b ∉ ex) : ∃ sl, h1.get? b = some { ob with slots := sl } := by
  by_cases hb : b ∈ fs
  · exact u.slot b ob q n hb hx
  · exact ⟨ob.slots, u.keep b ob q n hb hx⟩
theorem Un.kept (k : ∀ b u, h.get? b = some u → h'.get? b = some u) : Un fs ex H H h h' :=
  ⟨fun b ob q _ _ _ => k b ob q, fun b ob q _ _ _ => ⟨ob.slots, k b ob q⟩, fun _ _ _ n _ => n, fun b ob q _ => ⟨ob, k b ob q⟩, fun _ _ q => q, fun _ _ _ q => q, fun _ ps q => ⟨#[], by rw [q]; simp⟩⟩
theorem Un.refl : Un fs ex H H h h := Un.kept fun _ _ q => q
theorem Un.laid (k : ∀ b u, h.get? b = some u → h'.get? b = some u) (hp : h.objs.size ≤ a) (hn : H a = none) : Un fs ex H (upd H a o) h h' where
  keep := fun b u q _ _ _ => k b u q
  slot := fun b u q _ _ _ => ⟨u.slots, k b u q⟩
  free := fun b u q n _ => by rw [upd_ne (Nat.ne_of_lt (Nat.lt_of_lt_of_le (Heap.lt_size q) hp))]; exact n
  there := fun b u q _ => ⟨u, k b u q⟩
  tups := fun b xs q => by rw [upd_ne (ne_of_none q hn)]; exact q
  frzs := fun b u xs q => by rw [upd_ne (ne_of_none q hn)]; exact q
  tbls := fun b ps q => ⟨#[], by rw [upd_ne (ne_of_none q hn), q]; simp⟩
theorem Un.write (mu : Mut (H x)) (he : e = x ∨ H e = some (.own x)) (k : ∀ b u, b ≠ e → h.get? b = some u → h'.get? b = some u) (heo : ∃ u, h'.get? e = some u) : Un fs ex H (upd H x o) h h' := by
  have hx : ∀ b, H b = none → b ≠ x := fun b n z => by subst z; rw [n] at mu; exact mu
  have hb : ∀ b, H b = none → b ≠ e := fun b n z => by
    subst z
    rcases he with r | r
    · exact hx b n r
    · rw [n] at r; cases r
  have hm : ∀ b u, H b = some u → ¬ Mut (some u) → b ≠ x := fun b u q nm z => by subst z; rw [q] at mu; exact nm mu
  refine ⟨fun b u q n _ _ => k b u (hb b n) q, fun b u q n _ _ => ⟨u.slots, k b u (hb b n) q⟩, fun b u q n _ => by rw [upd_ne (hx b n)]; exact n, fun b u q _ => ?_,
    fun b xs q => by rw [upd_ne (hm b _ q fun z => z)]; exact q, fun b u xs q => by rw [upd_ne (hm b _ q fun z => z)]; exact q, fun b ps q => ⟨#[], by rw [upd_ne (hm b _ q fun z => z), q]; simp⟩⟩
  by_cases hbe : b = e
  · subst hbe; exact heo
  · exact ⟨u, k b u hbe q⟩
end
noncomputable def trk (h : Heap) (H : Hp) : List Addr := (List.range h.objs.size).filter fun a => (H a).isSome
noncomputable def hidT (h : Heap) (H : Hp) : Heap := PySem.W.hideAll h (trk h H)
theorem hidT_size (h : Heap) (H : Hp) : (hidT h H).objs.size = h.objs.size := PySem.W.hideAll_size _ _
theorem hidT_get {h : Heap} {H : Hp} {b : Addr} {o : Obj} (e : h.get? b = some o) (n : H b = none) : (hidT h H).get? b = some o :=
  PySem.W.hideAll_get _ e fun hm => by
    have q : (H b).isSome = true := (List.mem_filter.mp hm).2
    rw [n] at q; simp at q
theorem of_hidT {h : Heap} {H : Hp} {b : Addr} {o : Obj} (e : (hidT h H).get? b = some o) : h.get? b = some o ∧ H b = none := by
  have e' : h.get? b = some o := PySem.W.of_hideAll (trk h H) e
  refine ⟨e', ?_⟩
  cases q : H b with
  | none => rfl
  | some x =>
    have hm : b ∈ trk h H := List.mem_filter.mpr ⟨List.mem_range.mpr (Heap.lt_size e'), by simp [q]⟩
    have z : (hidT h H).get? b = none := PySem.W.hideAll_none (trk h H) hm
    rw [z] at e; cases e
noncomputable def allNews (g h : Heap) (L : Addr) : List (Addr × Obj) := (List.range h.objs.size).filterMap fun a => if a = L ∨ (g.get? a).isSome = true then none else (h.get? a).map fun o => (a, o)
noncomputable def rest (g h : Heap) (L d : Addr) : List (Addr × Obj) := (allNews g h L).filter fun p => decide (p.1 ≠ d)
end L2
namespace L2
open PySem PySem.Spec PyProof.Rows
structure Mod (K : PySem.W.Frag) (mg : Str → Option Value) (base : Heap) : Prop where
  kin : K.In base
  glob : base.Ns mainGlobals mg
  blt : ∃ mb, base.Ns builtinsNs mb ∧ ∀ x : Str, x ≠ "__name__" → mb x = bootBuiltins x
  nolimit : base.NoLimit
structure Cx where
  prog : Program
  w : World
  K : PySem.W.Frag
  mg : Str → Option Value
  base : Heap
  A : Around
  N : List Str
  s₀ : Shared
  H₀ : Hp
  env : Env
  outer : List Env
  stack : List Env
  ex : List Addr
  fn : Str → Bool
  calm : Bool
  pn : List (Addr × Obj)
  xe : Value → Shared → Prop
noncomputable def frs (l : List Env) : List Addr := l.filterMap (·.frame)
noncomputable abbrev Cx.fs (X : Cx) : List Addr := frs X.outer
noncomputable def Vis (sc : Scope) (x : Str) : Prop := sc.names.lookup x = some .local ∨ sc.names.lookup x = some .cell ∨ sc.names.lookup x = some .free
noncomputable def Loc (sc : Scope) (x : Str) : Prop := sc.names.lookup x = some .local ∨ sc.names.lookup x = some .cell
noncomputable def Look (env : Env) (h : Heap) (m : Str → Option Value) (x : Str) (u : Value) : Prop :=
  (env.kindOf x = some .local ∧ m x = some u) ∨ ((env.kindOf x = some .cell ∨ env.kindOf x = some .free) ∧ ∃ c, env.cells.lookup x = some c ∧ h.IsCell c (some u))
structure Cx.Ok (X : Cx) : Prop where
  mod : Mod X.K X.mg X.base
  kind : X.env.scope.kind = .function
  glob : X.env.globals = mainGlobals
  blt : X.env.builtins = builtinsNs
  above : X.s₀.heap.objs.size ≤ X.env.locals
  inj : ∀ x y c, X.env.cells.lookup x = some c → X.env.cells.lookup y = some c → x = y
  has : ∀ x, (X.env.kindOf x = some .cell ∨ X.env.kindOf x = some .free) → ∃ c, X.env.cells.lookup x = some c
  cab : ∀ x c, X.fn x = true → X.env.cells.lookup x = some c → X.s₀.heap.objs.size ≤ c
  hd : X.calm = true → X.A.handled = none
  frames : X.A.frames = some X.stack
  stk : X.stack = X.outer ∨ (X.stack = X.env :: X.outer ∧ X.env.frame = some X.env.locals)
  exf : ∀ b ∈ X.ex, b ≠ X.env.locals ∧ ∀ x c, X.env.cells.lookup x = some c → c ≠ b
  bs : ∀ b o, X.base.get? b = some o → X.s₀.heap.get? b = some o ∧ X.H₀ b = none
  bsz : X.base.objs.size ≤ X.s₀.heap.objs.size
  noex : ∀ b o, X.base.get? b = some o → b ∉ X.ex
  exfs : ∀ b ∈ X.ex, b ∉ X.fs
  funs : X.s₀.heap.FunFrames X.base X.outer
  frf : ∀ b ∈ X.fs, X.H₀ b = none
structure Inv (X : Cx) (pins : List (Addr × Obj)) (σ : List (Option V)) (H : Hp) (s : Shared) : Prop where
  ok : X.Ok
  os : s.os = X.s₀.os
  bare : AllBare s.gens
  base : Un X.fs X.ex X.H₀ H X.s₀.heap s.heap
  loc : ∃ m, s.heap.Ns X.env.locals m ∧ ∀ (i : Nat) (x : Str) (v : V), X.N[i]? = some x → σ[i]? = some (some v) → Vis X.env.scope x → ∃ u, RelV v u ∧ Look X.env s.heap m x u
  cell : ∀ x c, X.env.cells.lookup x = some c → ∃ v, s.heap.IsCell c v
  free : H X.env.locals = none
  freeC : ∀ x c, X.env.cells.lookup x = some c → H c = none
  pin : ∀ p ∈ X.pn ++ pins, s.heap.get? p.1 = some p.2 ∧ H p.1 = none ∧ p.1 ≠ X.env.locals ∧ p.1 ∉ X.fs ∧ ∀ v, p.2.data ≠ .cell v
  hok : HOk X.prog X.w H s.heap
  len : σ.length = X.N.length
section
variable {X : Cx} {pins : List (Addr × Obj)} {σ : List (Option V)} {H H' : Hp} {s : Shared} {h' : Heap}
theorem Cx.Ok.nofr (ok : X.Ok) {b : Addr} {o : Obj} (e : X.base.get? b = some o) : b ∉ X.fs := fun hb => by
  have := (ok.funs.mem hb).1
  rw [e] at this; cases this
theorem Inv.bs (I : Inv X pins σ H s) : ∀ b o, X.base.get? b = some o → s.heap.get? b = some o ∧ H b = none := fun b o e =>
  ⟨I.base.keep b o (I.ok.bs b o e).1 (I.ok.bs b o e).2 (I.ok.nofr e) (I.ok.noex b o e), I.base.free b o (I.ok.bs b o e).1 (I.ok.bs b o e).2 (I.ok.noex b o e)⟩
theorem Inv.bk (I : Inv X pins σ H s) : ∀ b o, X.base.get? b = some o → s.heap.get? b = some o := fun b o e => (I.bs b o e).1
theorem Inv.mod (I : Inv X pins σ H s) : Mod X.K X.mg X.base := I.ok.mod
theorem Inv.kIn (I : Inv X pins σ H s) : X.K.In s.heap := I.ok.mod.kin.keeps I.bk
theorem Inv.lt (I : Inv X pins σ H s) : X.env.locals < s.heap.objs.size := let ⟨_, hn, _⟩ := I.loc; hn.lt
theorem Inv.sz (I : Inv X pins σ H s) : X.s₀.heap.objs.size ≤ s.heap.objs.size := Nat.le_trans I.ok.above (Nat.le_of_lt I.lt)
theorem Inv.nofs (I : Inv X pins σ H s) {a : Addr} (h : s.heap.objs.size ≤ a) : a ∉ X.fs := fun hb => by
  obtain ⟨_, o, ho, _⟩ := I.ok.funs.mem hb
  exact absurd (Nat.lt_of_lt_of_le (Heap.lt_size ho) (Nat.le_trans I.sz h)) (Nat.lt_irrefl _)
theorem Inv.cne (I : Inv X pins σ H s) : ∀ x c, X.env.cells.lookup x = some c → c ≠ X.env.locals := fun x c e z => by
  obtain ⟨v, o, ho, hd⟩ := I.cell x c e
  obtain ⟨m, ⟨o', es, ep, ho', hd', _⟩, _⟩ := I.loc
  rw [z, ho'] at ho; cases ho; rw [hd'] at hd; cases hd
theorem Inv.funs (I : Inv X pins σ H s) : s.heap.FunFrames X.base X.outer := by
  have all : ∀ (l : List Env), (∀ b ∈ frs l, b ∈ X.fs) → X.s₀.heap.FunFrames X.base l → s.heap.FunFrames X.base l := by
    intro l
    induction l with
    | nil => intro _ _; trivial
    | cons env r ih =>
      intro hs hl
      obtain ⟨hk, ⟨L, o, hf, hn, ho, hd⟩, hr⟩ := hl
      have hL : L ∈ X.fs := hs L (by unfold frs; rw [List.filterMap_cons, hf]; exact List.mem_cons_self)
      obtain ⟨sl, e⟩ := I.base.slot L o ho (I.ok.frf L hL) hL fun z => I.ok.exfs L z hL
      exact ⟨hk, ⟨L, _, hf, hn, e, hd⟩, ih (fun b hb => hs b (by unfold frs; rw [List.filterMap_cons, hf]; exact List.mem_cons_of_mem _ hb)) hr⟩
  exact all X.outer (fun _ hb => hb) I.ok.funs
theorem Inv.stack (I : Inv X pins σ H s) : s.heap.FunFrames X.base X.stack := by
  rcases I.ok.stk with e | ⟨e, hf⟩
  · rw [e]; exact I.funs
  · rw [e]
    obtain ⟨m, hn, _⟩ := I.loc
    refine .cons (by rw [I.ok.kind]; decide) hf hn ?_ I.funs
    exact Heap.get?_none_of_le (Nat.le_trans I.ok.bsz I.ok.above)
theorem Inv.stkSub (I : Inv X pins σ H s) : ∀ b ∈ frs X.stack, b ∈ X.env.locals :: X.fs := fun b hb => by
  rcases I.ok.stk with e | ⟨e, hf⟩
  · rw [e] at hb; exact List.mem_cons_of_mem _ hb
  · rw [e] at hb
    unfold frs at hb
    rw [List.filterMap_cons, hf] at hb
    exact hb
theorem Inv.stkFree (I : Inv X pins σ H s) : ∀ b ∈ frs X.stack, H b = none := fun b hb => by
  rcases List.mem_cons.mp (I.stkSub b hb) with e | hb
  · rw [e]; exact I.free
  · obtain ⟨_, o, ho, _⟩ := I.ok.funs.mem hb
    exact I.base.free b o ho (I.ok.frf b hb) fun z => I.ok.exfs b z hb
theorem Inv.step {g' : Array GenState} {t' : Nat} {d' : Drawn} {ch : List Addr} (I : Inv X pins σ H s)
    (hch : ∀ b ∈ ch, (b ∈ X.ex ∨ X.s₀.heap.objs.size ≤ b) ∧ b ≠ X.env.locals ∧ (∀ x c, X.env.cells.lookup x = some c → c ≠ b) ∧ ∀ p ∈ X.pn ++ pins, p.1 ≠ b)
    (keep : ∀ b o, b ≠ X.env.locals → b ∉ X.fs → b ∉ ch → s.heap.get? b = some o → H b = none → h'.get? b = some o)
    (slot : ∀ b o, b ≠ X.env.locals → b ∈ X.fs → b ∉ ch → s.heap.get? b = some o → H b = none → ∃ sl, h'.get? b = some { o with slots := sl }) (free : ∀ b o, b ∉ ch → s.heap.get? b = some o → H b = none → H' b = none)
    (there : ∀ b o, b ∉ ch → s.heap.get? b = some o → ∃ o', h'.get? b = some o')
    (tups : ∀ b xs, H b = some (.tup xs) → H' b = some (.tup xs)) (frzs : ∀ b o u, H b = some (.frz o u) → H' b = some (.frz o u)) (tbls : ∀ b ps, H b = some (.tbl ps) → ∃ more, H' b = some (.tbl (ps ++ more)))
    (ns : ∀ m, s.heap.Ns X.env.locals m → h'.Ns X.env.locals m) (hok : HOk X.prog X.w H' h') (hg : AllBare g') :
    Inv X pins σ H' { s with heap := h', gens := g', drawn := d', toks := t' } := by
  have neL : ∀ b o, X.s₀.heap.get? b = some o → b ≠ X.env.locals := fun b o e => Nat.ne_of_lt (Nat.lt_of_lt_of_le (Heap.lt_size e) I.ok.above)
  have neC : ∀ b o, X.s₀.heap.get? b = some o → b ∉ X.ex → b ∉ ch := fun b o e hx hb => by
    rcases (hch b hb).1 with z | z
    · exact hx z
    · exact absurd (Nat.lt_of_lt_of_le (Heap.lt_size e) z) (Nat.lt_irrefl _)
  have cellK : ∀ x c, X.env.cells.lookup x = some c → ∀ v, s.heap.IsCell c v → h'.IsCell c v := fun x c e v ⟨o, ho, hd⟩ => by
    have nch : c ∉ ch := fun z => (hch c z).2.2.1 x c e rfl
    by_cases hc : c ∈ X.fs
    · obtain ⟨sl, q⟩ := slot c o (I.cne x c e) hc nch ho (I.freeC x c e)
      exact ⟨_, q, hd⟩
    · exact ⟨o, keep c o (I.cne x c e) hc nch ho (I.freeC x c e), hd⟩
  refine ⟨I.ok, I.os, hg, ⟨fun b o e n hb hx => ?_, fun b o e n hb hx => ?_, fun b o e n hx => ?_, fun b o e hx => ?_, fun b xs e => tups b xs (I.base.tups b xs e), fun b o xs e => frzs b o xs (I.base.frzs b o xs e), fun b ps e => ?_⟩, ?_, fun x c e => ?_, ?_, fun x c e => ?_, fun p hp => ?_, hok, I.len⟩
  · exact keep b o (neL b o e) hb (neC b o e hx) (I.base.keep b o e n hb hx) (I.base.free b o e n hx)
  · obtain ⟨sl, e1⟩ := I.base.slot b o e n hb hx
    obtain ⟨sl', e2⟩ := slot b _ (neL b o e) hb (neC b o e hx) e1 (I.base.free b o e n hx)
    exact ⟨sl', e2⟩
  · obtain ⟨o', e1⟩ := I.base.there b o e hx
    exact free b o' (neC b o e hx) e1 (I.base.free b o e n hx)
  · obtain ⟨o', e1⟩ := I.base.there b o e hx
    exact there b o' (neC b o e hx) e1
  · obtain ⟨m1, e1⟩ := I.base.tbls b ps e
    obtain ⟨m2, e2⟩ := tbls b _ e1
    exact ⟨m1 ++ m2, by rw [e2, Array.append_assoc]⟩
  · obtain ⟨m, hn, hl⟩ := I.loc
    refine ⟨m, ns m hn, fun i x v e1 e2 e3 => ?_⟩
    obtain ⟨u, r, l⟩ := hl i x v e1 e2 e3
    refine ⟨u, r, ?_⟩
    rcases l with l | ⟨k, c, e, z⟩
    · exact .inl l
    · exact .inr ⟨k, c, e, cellK x c e _ z⟩
  · obtain ⟨v, z⟩ := I.cell x c e
    exact ⟨v, cellK x c e v z⟩
  · obtain ⟨m, ⟨o, _, _, ho, _⟩, _⟩ := I.loc
    exact free _ o (fun z => (hch _ z).2.1 rfl) ho I.free
  · obtain ⟨v, o, ho, hd⟩ := I.cell x c e
    exact free c o (fun z => (hch c z).2.2.1 x c e rfl) ho (I.freeC x c e)
  · obtain ⟨e, n, ne, nf, d⟩ := I.pin p hp
    have nch : p.1 ∉ ch := fun z => (hch p.1 z).2.2.2 p hp rfl
    exact ⟨keep p.1 p.2 ne nf nch e n, free p.1 p.2 nch e n, ne, nf, d⟩
theorem Inv.un {t' : Nat} (I : Inv X pins σ H s) (u : Un X.fs [] H H' s.heap h') (hok : HOk X.prog X.w H' h') : Inv X pins σ H' { s with heap := h', toks := t' } := by
  obtain ⟨m, ⟨o, es, ep, ho, r⟩, _⟩ := id I.loc
  obtain ⟨sl, hL⟩ := u.any ho I.free (by simp)
  exact I.step (g' := s.gens) (d' := s.drawn) (ch := []) (fun _ z => nomatch z) (fun b o _ hb _ e n => u.keep b o e n hb (by simp)) (fun b o _ hb _ e n => u.slot b o e n hb (by simp)) (fun b o _ e n => u.free b o e n (by simp)) (fun b o _ e => u.there b o e (by simp)) u.tups u.frzs u.tbls (fun m' hm => by
    obtain ⟨o', es', ep', ho', r'⟩ := hm
    rw [ho] at ho'; cases ho'
    exact ⟨_, es', ep', hL, r'⟩) hok I.bare
theorem Inv.call {g' : Array GenState} {t' : Nat} {d' : Drawn} {ch : List Addr} (I : Inv X pins σ H s) (u : Un (frs X.stack) ch H H' s.heap h') (hok : HOk X.prog X.w H' h') (hg : AllBare g')
    (hch : ∀ b ∈ ch, (b ∈ X.ex ∨ X.s₀.heap.objs.size ≤ b) ∧ b ≠ X.env.locals ∧ (∀ x c, X.env.cells.lookup x = some c → c ≠ b) ∧ ∀ p ∈ X.pn ++ pins, p.1 ≠ b) :
    Inv X pins σ H' { s with heap := h', gens := g', drawn := d', toks := t' } := by
  obtain ⟨m, ⟨o, es, ep, ho, r⟩, _⟩ := id I.loc
  obtain ⟨sl, hL⟩ := u.any ho I.free fun z => (hch _ z).2.1 rfl
  exact I.step (ch := ch) hch (fun b o hL hb hc e n => u.keep b o e n (fun z => (List.mem_cons.mp (I.stkSub b z)).elim hL hb) hc) (fun b o _ _ hc e n => u.any e n hc) (fun b o hc e n => u.free b o e n hc) (fun b o hc e => u.there b o e hc) u.tups u.frzs u.tbls (fun m' hm => by
    obtain ⟨o', es', ep', ho', r'⟩ := hm
    rw [ho] at ho'; cases ho'
    exact ⟨_, es', ep', hL, r'⟩) hok hg
theorem Inv.turned {t' : Nat} {it : Addr} (I : Inv X pins σ H s) (k : ∀ b o, b ≠ it → s.heap.get? b = some o → h'.get? b = some o) (hn : H it = none) (hL : it ≠ X.env.locals)
    (h1 : it ∈ X.ex ∨ X.s₀.heap.objs.size ≤ it) (h2 : ∀ x c, X.env.cells.lookup x = some c → c ≠ it) (h3 : ∀ p ∈ X.pn ++ pins, p.1 ≠ it) : Inv X pins σ H { s with heap := h', toks := t' } := by
  have nit : ∀ b u, H b = some u → b ≠ it := fun b u e z => by rw [z, hn] at e; cases e
  refine I.step (g' := s.gens) (d' := s.drawn) (ch := [it]) (fun b hb => ?_) (fun b o _ _ hc e _ => k b o (fun z => hc (by simp [z])) e) (fun b o _ _ hc e _ => ⟨o.slots, k b o (fun z => hc (by simp [z])) e⟩) (fun _ _ _ _ n => n)
    (fun b o hc e => ⟨o, k b o (fun z => hc (by simp [z])) e⟩) (fun _ _ e => e) (fun _ _ _ e => e) (fun b ps e => ⟨#[], by rw [e]; simp⟩) (fun m hm => ?_) (fun b u e => ?_) I.bare
  · have e : b = it := by simpa using hb
    subst e
    exact ⟨h1, hL, h2, h3⟩
  · obtain ⟨o, es, ep, ho, r⟩ := hm
    exact ⟨o, es, ep, k _ o (Ne.symm hL) ho, r⟩
  · refine (I.hok b u e).stay (fun c v hc q => k c v ?_ q) (fun _ q => q) fun _ _ q => q
    rcases hc with z | z
    · rw [z]; exact nit b u e
    · exact nit c _ z
theorem Inv.tok (I : Inv X pins σ H s) (t : Nat) : Inv X pins σ H { s with toks := t } := I.un (h' := s.heap) (t' := t) Un.refl I.hok
theorem Inv.kept {t' : Nat} (I : Inv X pins σ H s) (k : ∀ b u, s.heap.get? b = some u → h'.get? b = some u) : Inv X pins σ H { s with heap := h', toks := t' } := I.un (Un.kept k) (I.hok.kept k)
theorem Inv.laid {a : Addr} {o : HO} {t' : Nat} (I : Inv X pins σ H s) (k : ∀ b u, s.heap.get? b = some u → h'.get? b = some u) (hp : s.heap.objs.size ≤ a) (new : ObjOk X.prog X.w (upd H a o) h' a o) :
    Inv X pins σ (upd H a o) { s with heap := h', toks := t' } := I.un (Un.laid k hp (I.hok.fresh hp)) (I.hok.laid k hp new)
theorem Inv.write {x e : Addr} {o : HO} {t' : Nat} (I : Inv X pins σ H s) (mu : Mut (H x)) (he : e = x ∨ H e = some (.own x)) (k : ∀ b u, b ≠ e → s.heap.get? b = some u → h'.get? b = some u) (heo : ∃ u, h'.get? e = some u)
    (new : ObjOk X.prog X.w (upd H x o) h' x o) : Inv X pins σ (upd H x o) { s with heap := h', toks := t' } := I.un (Un.write mu he k heo) (I.hok.write mu he k heo new)
theorem Inv.weak {σ' : List (Option V)} (I : Inv X pins σ H s) (hl : σ'.length = σ.length) (w : ∀ (i : Nat) v, σ'[i]? = some (some v) → σ[i]? = some (some v)) : Inv X pins σ' H s :=
  ⟨I.ok, I.os, I.bare, I.base, let ⟨m, hn, hl'⟩ := I.loc; ⟨m, hn, fun i x v e1 e2 e3 => hl' i x v e1 (w i v e2) e3⟩, I.cell, I.free, I.freeC, I.pin, I.hok, hl.trans I.len⟩
theorem Inv.pins_of {pins' : List (Addr × Obj)} (I : Inv X pins σ H s) (h : ∀ p ∈ pins', s.heap.get? p.1 = some p.2 ∧ H p.1 = none ∧ p.1 ≠ X.env.locals ∧ p.1 ∉ X.fs ∧ ∀ v, p.2.data ≠ .cell v) : Inv X pins' σ H s :=
  ⟨I.ok, I.os, I.bare, I.base, I.loc, I.cell, I.free, I.freeC, fun p hp => (List.mem_append.mp hp).elim (fun z => I.pin p (List.mem_append_left _ z)) (h p), I.hok, I.len⟩
theorem nodup_ix {N : List Str} (hN : N.Nodup) {i j : Nat} {x : Str} (a : N[i]? = some x) (b : N[j]? = some x) : i = j := by
  obtain ⟨h1, e1⟩ := List.getElem?_eq_some_iff.mp a
  obtain ⟨h2, e2⟩ := List.getElem?_eq_some_iff.mp b
  exact (List.getElem_inj hN).mp (e1.trans e2.symm)
theorem store_ok2 {M : Model} {A : Around} {E : Value → Shared → Prop} {i : Nat} {x : Str} {v : V} {u : Value} {Q : Unit → Shared → Prop} (I : Inv X pins σ H s) (hN : X.N.Nodup) (hi : X.N[i]? = some x) (hx : Loc X.env.scope x) (r : RelV v u)
    (h : ∀ s', Inv X pins (σ.set i (some v)) H s' → (∃ a, Heap.SameBut a s.heap s'.heap ∧ (a = X.env.locals ∨ X.env.cells.lookup x = some a)) → Q () s') (hf : X.fn x = true ∨ X.env.scope.names.lookup x = some .local := by first | exact .inl rfl | exact .inr rfl | assumption) : wpAny M A (storeName X.env x u) Q E s := by
  obtain ⟨m, hn, hl⟩ := id I.loc
  have hcls : (X.env.scope.kind == .class || (X.env.scope.kind == .module && X.env.locals != X.env.globals)) = false := by rw [I.ok.kind]; rfl
  have hiσ : i < σ.length := by rw [I.len]; exact (List.getElem?_eq_some_iff.mp hi).1
  have cne := I.cne
  have tracked : ∀ {a : Addr} {h' : Heap}, (∃ o, s.heap.get? a = some o ∧ H a = none) → Heap.SameBut a s.heap h' → HOk X.prog X.w H h' := fun {a h'} ha hs b ob e => by
    obtain ⟨_, _, hfree⟩ := ha
    refine (I.hok b ob e).stay (fun c w' hc q => (hs.2 c ?_).trans q) (fun _ q => q) fun _ _ q => q
    rintro rfl
    rcases hc with rfl | hc
    · rw [hfree] at e; cases e
    · rw [hfree] at hc; cases hc
  rcases hx with hk | hk
  · refine wpAny_storeName_local hk hn (fun h' hn' hs => ?_) hcls
    obtain ⟨oL, _, _, hoL, _⟩ := id hn
    refine h _ ⟨I.ok, I.os, I.bare, ⟨fun b o e n hb hx => ?_, fun b o e n hb hx => ?_, I.base.free, fun b o e hx => ?_, I.base.tups, I.base.frzs, I.base.tbls⟩, ⟨_, hn', fun j y v' e1 e2 e3 => ?_⟩, fun y c e => ?_, I.free, I.freeC, fun p hp => ?_, tracked ⟨oL, hoL, I.free⟩ hs, by simpa using I.len⟩ ⟨_, hs, .inl rfl⟩
    · exact (hs.2 b (Nat.ne_of_lt (Nat.lt_of_lt_of_le (Heap.lt_size e) I.ok.above))).trans (I.base.keep b o e n hb hx)
    · obtain ⟨sl, e1⟩ := I.base.slot b o e n hb hx
      exact ⟨sl, (hs.2 b (Nat.ne_of_lt (Nat.lt_of_lt_of_le (Heap.lt_size e) I.ok.above))).trans e1⟩
    · obtain ⟨o', e1⟩ := I.base.there b o e hx
      exact ⟨o', (hs.2 b (Nat.ne_of_lt (Nat.lt_of_lt_of_le (Heap.lt_size e) I.ok.above))).trans e1⟩
    · by_cases hj : j = i
      · subst hj
        rw [hi] at e1; cases e1
        rw [List.getElem?_set_self hiσ] at e2
        cases e2
        exact ⟨u, r, .inl ⟨hk, by simp⟩⟩
      · rw [List.getElem?_set_ne (Ne.symm hj)] at e2
        obtain ⟨u', r', q⟩ := hl j y v' e1 e2 e3
        refine ⟨u', r', ?_⟩
        rcases q with ⟨k, e⟩ | ⟨k, c, e, z⟩
        · refine .inl ⟨k, ?_⟩
          have : y ≠ x := fun e => hj (nodup_ix hN e1 (e ▸ hi))
          simp [this, e]
        · exact .inr ⟨k, c, e, z.sameBut hs (cne y c e)⟩
    · obtain ⟨w', z⟩ := I.cell y c e
      exact ⟨w', z.sameBut hs (cne y c e)⟩
    · obtain ⟨e, n, ne, nf, d⟩ := I.pin p hp
      exact ⟨(hs.2 p.1 ne).trans e, n, ne, nf, d⟩
  · have hfn : X.fn x = true := by
      rcases hf with z | z
      · exact z
      · rw [z] at hk; cases hk
    obtain ⟨c, hc⟩ := I.ok.has x (.inl hk)
    obtain ⟨w', z⟩ := I.cell x c hc
    refine wpAny_storeName_cell I.ok.kind hk hc z (fun h' hc' hs => ?_)
    obtain ⟨oc, hoc, hocd⟩ := id z
    refine h { s with heap := h' } ⟨I.ok, I.os, I.bare, ⟨fun b o e n hb hx => ?_, fun b o e n hb hx => ?_, I.base.free, fun b o e hx => ?_, I.base.tups, I.base.frzs, I.base.tbls⟩, ⟨m, hn.sameBut hs (Ne.symm (cne x c hc)), fun j y v' e1 e2 e3 => ?_⟩, fun y c' e => ?_, I.free, I.freeC, fun p hp => ?_, tracked ⟨oc, hoc, I.freeC x c hc⟩ hs, by simpa using I.len⟩ ⟨c, hs, .inr hc⟩
    · exact (hs.2 b (Nat.ne_of_lt (Nat.lt_of_lt_of_le (Heap.lt_size e) (I.ok.cab x c hfn hc)))).trans (I.base.keep b o e n hb hx)
    · obtain ⟨sl, e1⟩ := I.base.slot b o e n hb hx
      exact ⟨sl, (hs.2 b (Nat.ne_of_lt (Nat.lt_of_lt_of_le (Heap.lt_size e) (I.ok.cab x c hfn hc)))).trans e1⟩
    · obtain ⟨o', e1⟩ := I.base.there b o e hx
      exact ⟨o', (hs.2 b (Nat.ne_of_lt (Nat.lt_of_lt_of_le (Heap.lt_size e) (I.ok.cab x c hfn hc)))).trans e1⟩
    · by_cases hj : j = i
      · subst hj
        rw [hi] at e1; cases e1
        rw [List.getElem?_set_self hiσ] at e2
        cases e2
        exact ⟨u, r, .inr ⟨.inl hk, c, hc, hc'⟩⟩
      · rw [List.getElem?_set_ne (Ne.symm hj)] at e2
        obtain ⟨u', r', q⟩ := hl j y v' e1 e2 e3
        refine ⟨u', r', ?_⟩
        rcases q with q | ⟨k, c', e, z'⟩
        · exact .inl q
        · refine .inr ⟨k, c', e, z'.sameBut hs ?_⟩
          rintro rfl
          exact hj (nodup_ix hN e1 (I.ok.inj _ _ _ e hc ▸ hi))
    · by_cases hcc : c' = c
      · subst hcc; exact ⟨_, hc'⟩
      · obtain ⟨w2, z2⟩ := I.cell y c' e
        exact ⟨w2, z2.sameBut hs hcc⟩
    · obtain ⟨e, n, ne, nf, d⟩ := I.pin p hp
      refine ⟨(hs.2 p.1 ?_).trans e, n, ne, nf, d⟩
      intro q
      rw [q, hoc] at e
      have q' : oc = p.2 := Option.some.inj e
      exact d w' (by rw [← q']; exact hocd)
theorem store_ok {M : Model} {A : Around} {E : Value → Shared → Prop} {i : Nat} {x : Str} {v : V} {u : Value} {Q : Unit → Shared → Prop} (I : Inv X pins σ H s) (hN : X.N.Nodup) (hi : X.N[i]? = some x) (hx : Loc X.env.scope x) (r : RelV v u)
    (h : ∀ s', Inv X pins (σ.set i (some v)) H s' → Q () s') (hf : X.fn x = true ∨ X.env.scope.names.lookup x = some .local := by first | exact .inl rfl | exact .inr rfl | assumption) : wpAny M A (storeName X.env x u) Q E s :=
  store_ok2 I hN hi hx r (fun s' I' _ => h s' I') hf
theorem Inv.call' {s' : Shared} {ch : List Addr} (I : Inv X pins σ H s) (ho : s'.os = s.os) (u : Un (frs X.stack) ch H H' s.heap s'.heap) (hok : HOk X.prog X.w H' s'.heap) (hg : AllBare s'.gens)
    (hch : ∀ b ∈ ch, (b ∈ X.ex ∨ X.s₀.heap.objs.size ≤ b) ∧ b ≠ X.env.locals ∧ (∀ x c, X.env.cells.lookup x = some c → c ≠ b) ∧ ∀ p ∈ X.pn ++ pins, p.1 ≠ b) : Inv X pins σ H' s' := by
  obtain ⟨h', g', d', t', o'⟩ := s'
  have e : o' = s.os := ho
  subst e
  exact I.call (g' := g') (t' := t') (d' := d') u hok hg hch
end
noncomputable abbrev XK := Value → Option Addr → Hp → Prop
noncomputable abbrev St := List (Option V)
noncomputable abbrev VK := V → Hp → Prop
noncomputable abbrev TE := St → Hp → VK → Prop
noncomputable abbrev TT := St → Hp → (Bool → Hp → Prop) → Prop
noncomputable abbrev TA := St → Hp → (List V → Hp → Prop) → Prop
structure Ends where
  nx : St → Hp → Prop
  rt : VK
  bk : St → Hp → Prop := fun _ _ => False
  ct : St → Hp → Prop := fun _ _ => False
noncomputable abbrev TS := Ends → St → Hp → Prop
noncomputable def EP (X : Cx) (pins : List (Addr × Obj)) (σ : St) (Q : VK) (u : Value) (s' : Shared) : Prop := ∃ v H', Inv X pins σ H' s' ∧ RelV v u ∧ Q v H'
noncomputable def TP (X : Cx) (pins : List (Addr × Obj)) (σ : St) (Q : Bool → Hp → Prop) (b : Bool) (s' : Shared) : Prop := ∃ H', Inv X pins σ H' s' ∧ Q b H'
noncomputable def AP (X : Cx) (pins : List (Addr × Obj)) (σ : St) (Q : List V → Hp → Prop) (us : List Value) (s' : Shared) : Prop := ∃ vs H', Inv X pins σ H' s' ∧ Vals vs us ∧ Q vs H'
noncomputable def SP (X : Cx) (pins : List (Addr × Obj)) (D : Ends) (f : Flow) (s' : Shared) : Prop :=
  match f with
  | .next => ∃ σ' H', Inv X pins σ' H' s' ∧ D.nx σ' H'
  | .brk => ∃ σ' H', Inv X pins σ' H' s' ∧ D.bk σ' H'
  | .cont => ∃ σ' H', Inv X pins σ' H' s' ∧ D.ct σ' H'
  | .ret u => ∃ v σ' H', Inv X pins σ' H' s' ∧ RelV v u ∧ D.rt v H'
noncomputable def PE (X : Cx) (e : Expr) (t : TE) : Prop :=
  ∀ (pins : List (Addr × Obj)) (s : Shared) (σ : St) (H : Hp) (Q : VK), Inv X pins σ H s → t σ H Q → wpAny (model X.prog X.w) X.A (eval e X.env) (EP X pins σ Q) X.xe s
noncomputable def PT (X : Cx) (e : Expr) (t : TT) : Prop :=
  ∀ (pins : List (Addr × Obj)) (s : Shared) (σ : St) (H : Hp) (Q : Bool → Hp → Prop), Inv X pins σ H s → t σ H Q → wpAny (model X.prog X.w) X.A (isTrue e X.env (eval e X.env)) (TP X pins σ Q) X.xe s
noncomputable def PW (X : Cx) (e : Expr) (t : TT) : Prop :=
  ∀ (whole : Sem Value) (pins : List (Addr × Obj)) (s : Shared) (σ : St) (H : Hp) (Q : Bool → Hp → Prop), Inv X pins σ H s → t σ H Q → wpAny (model X.prog X.w) X.A (isTrue e X.env whole) (TP X pins σ Q) X.xe s
theorem PW.pt {X : Cx} {e : Expr} {t : TT} (h : PW X e t) : PT X e t := h _
noncomputable def PA (X : Cx) (es : List Expr) (t : TA) : Prop :=
  ∀ (pos : Pos) (pins : List (Addr × Obj)) (s : Shared) (σ : St) (H : Hp) (Q : List V → Hp → Prop), Inv X pins σ H s → t σ H Q → wpAny (model X.prog X.w) X.A (spliced (backTo pos (starEach es X.env))) (AP X pins σ Q) X.xe s
noncomputable def PS (X : Cx) (st : Stmt) (t : TS) : Prop :=
  ∀ (pins : List (Addr × Obj)) (s : Shared) (σ : St) (H : Hp) (D : Ends), Inv X pins σ H s → t D σ H → wpAny (model X.prog X.w) X.A (exec st X.env) (SP X pins D) X.xe s
noncomputable def PSs (X : Cx) (st : List Stmt) (t : TS) : Prop :=
  ∀ (pins : List (Addr × Obj)) (s : Shared) (σ : St) (H : Hp) (D : Ends), Inv X pins σ H s → t D σ H → wpAny (model X.prog X.w) X.A (execs st X.env) (SP X pins D) X.xe s
theorem thn {α : Type} {t : Sem α} {Q Q' : α → Shared → Prop} {M : Model} {A : Around} {E : Value → Shared → Prop} {s : Shared} (h : wpAny M A t Q E s) (hQ : ∀ a s, Q a s → Q' a s) : wpAny M A t Q' E s := wpAny_mono h hQ fun _ _ x => x
end L2
namespace L2
open PySem PySem.Spec PyProof.Rows
section
variable {X : Cx}
noncomputable def tVar (i : Nat) : TE := fun σ H Q => ∃ v, σ[i]? = some (some v) ∧ Q v H
noncomputable def tC (v : V) : TE := fun _ H Q => Q v H
theorem pe_var {i : Nat} {x : Str} {pos : Pos} (hN : X.N[i]? = some x) (hv : Vis X.env.scope x) (hd : (x == ("__debug__" : Str)) = false := by decide) (hcd : (x == ("__classdict__" : Str)) = false := by decide) : PE X (.Name x pos) (tVar i) := by
  intro pins s σ H Q I h
  obtain ⟨v, e, h⟩ := h
  obtain ⟨m, hn, hl⟩ := I.loc
  obtain ⟨u, r, l⟩ := hl i x v hN e hv
  have fin : EP X pins σ Q u s := ⟨v, H, I, r, h⟩
  rcases l with ⟨hk, hm⟩ | ⟨hk, c, hc, hcell⟩
  · exact wpAny_Name (wpAny_loadName_local I.ok.kind hk hn hm fin) hd
  · rcases hk with hk | hk
    · exact wpAny_Name (wpAny_loadName_cell I.ok.kind hk hc hcell fin) hd
    · exact wpAny_Name (wpAny_loadName_free I.ok.kind hk hc hcell fin hcd) hd
theorem pe_int {i j pos} : PE X (.Constant (.int i) j pos) (tC (.int i)) := fun _ _ _ H _ I h => wpAny_Constant_int ⟨.int i, H, I.tok _, ⟨_, rfl⟩, h⟩
theorem pe_bl {b j pos} : PE X (.Constant (.bool b) j pos) (tC (.bl b)) := fun _ _ _ H _ I h => Constant_bool ⟨.bl b, H, I, rfl, h⟩
theorem pe_non {j pos} : PE X (.Constant .none j pos) (tC .non) := fun _ _ _ H _ I h => Constant_none ⟨.non, H, I, rfl, h⟩
theorem pe_str {x j pos} : PE X (.Constant (.str x) j pos) (tC (.str x)) := fun _ _ _ H _ I h => Calls.Constant_str ⟨.str x, H, I.tok _, ⟨_, rfl⟩, h⟩
noncomputable def Gl (X : Cx) (x : Str) : Prop := X.env.kindOf x = some .globalImplicit
theorem ld_glob {E : Value → Shared → Prop} {pins : List (Addr × Obj)} {s : Shared} {σ : St} {H : Hp} {x : Str} {u : Value} {pos : Pos} {Q : Value → Shared → Prop} (I : Inv X pins σ H s) (hg : Gl X x) (hm : X.mg x = some u) (h : Q u s)
    (hd : (x == ("__debug__" : Str)) = false := by decide) : wpAny (model X.prog X.w) X.A (eval (.Name x pos) X.env) Q E s :=
  Calls.Name_function_global I.ok.kind hg (Calls.loadGlobal_global (by rw [I.ok.glob]; exact I.mod.glob.keeps I.bk) hm h) hd
theorem ld_blt {E : Value → Shared → Prop} {pins : List (Addr × Obj)} {s : Shared} {σ : St} {H : Hp} {x : Str} {u : Value} {pos : Pos} {Q : Value → Shared → Prop} (I : Inv X pins σ H s) (hg : Gl X x) (hm : X.mg x = none) (hv : bootBuiltins x = some u) (h : Q u s)
    (hn : x ≠ "__name__" := by decide) (hd : (x == ("__debug__" : Str)) = false := by decide) : wpAny (model X.prog X.w) X.A (eval (.Name x pos) X.env) Q E s := by
  obtain ⟨mb, h1, h2⟩ := I.mod.blt
  exact Calls.Name_function_global I.ok.kind hg (Calls.loadGlobal_builtin (by rw [I.ok.glob]; exact I.mod.glob.keeps I.bk) hm (by rw [I.ok.blt]; exact h1.keeps I.bk) ((h2 x hn).trans hv) h) hd
theorem pe_glob {x : Str} {v : V} {u : Value} {pos : Pos} (hg : Gl X x) (hm : X.mg x = some u) (r : RelV v u) (hd : (x == ("__debug__" : Str)) = false := by decide) : PE X (.Name x pos) (tC v) :=
  fun _ _ _ H _ I h => ld_glob I hg hm ⟨v, H, I, r, h⟩ hd
theorem pe_bltn {x : Str} {v : V} {u : Value} {pos : Pos} (hg : Gl X x) (hm : X.mg x = none) (hv : bootBuiltins x = some u) (r : RelV v u) (hn : x ≠ "__name__" := by decide) (hd : (x == ("__debug__" : Str)) = false := by decide) : PE X (.Name x pos) (tC v) :=
  fun _ _ _ H _ I h => ld_blt I hg hm hv ⟨v, H, I, r, h⟩ hn hd
variable {a b : Expr} {ta tb : TE} {pos : Pos}
noncomputable def tB (t : TE) : TT := fun σ H Q => t σ H fun x H1 => ∃ c, x = .bl c ∧ Q c H1
theorem pt_val {e : Expr} {t : TE} (h : PE X e t) (he : ∀ whole, isTrue e X.env whole = (do let v ← whole; standAt e.pos; holding [v] (truthy v)) := by intro _; rfl) : PT X e (tB t) := by
  intro pins s σ H Q I hw
  refine isTrue_plain (thn (h pins s σ H _ I hw) fun v s1 ⟨x, H1, I1, r1, q1⟩ => ?_) (he _)
  obtain ⟨d, rfl, q⟩ := q1
  cases r1
  exact wpAny_truthy_bool ⟨H1, I1, q⟩
variable {tA tB' : TT} {rest : List Expr}
noncomputable def tAnd (t u : TT) : TT := fun σ H Q => t σ H fun c H1 => if c = true then u σ H1 Q else Q false H1
noncomputable def tOr (t u : TT) : TT := fun σ H Q => t σ H fun c H1 => if c = true then Q true H1 else u σ H1 Q
noncomputable def tNot (t : TT) : TT := fun σ H Q => t σ H fun c H1 => Q (!c) H1
theorem pw_and1 (ha : PT X a tA) : PW X (.BoolOp .And [a] pos) tA := by
  intro wh pins s σ H Q I h
  refine isTrue_and (thn (ha pins s σ H Q I h) fun c s1 e => ?_)
  cases c with
  | true => exact isTrue_and_nil e
  | false => exact e
theorem pw_or1 (ha : PT X a tA) : PW X (.BoolOp .Or [a] pos) tA := by
  intro wh pins s σ H Q I h
  refine isTrue_or (thn (ha pins s σ H Q I h) fun c s1 e => ?_)
  cases c with
  | false => exact isTrue_or_nil e
  | true => exact e
theorem pw_and (ha : PT X a tA) (hb : PW X (.BoolOp .And (b :: rest) pos) tB') : PW X (.BoolOp .And (a :: b :: rest) pos) (tAnd tA tB') := by
  intro wh pins s σ H Q I h
  refine isTrue_and (thn (ha pins s σ H _ I h) fun c s1 ⟨H1, I1, q1⟩ => ?_)
  cases c with
  | true => exact hb wh pins s1 σ H1 Q I1 q1
  | false => exact ⟨H1, I1, q1⟩
theorem pw_or (ha : PT X a tA) (hb : PW X (.BoolOp .Or (b :: rest) pos) tB') : PW X (.BoolOp .Or (a :: b :: rest) pos) (tOr tA tB') := by
  intro wh pins s σ H Q I h
  refine isTrue_or (thn (ha pins s σ H _ I h) fun c s1 ⟨H1, I1, q1⟩ => ?_)
  cases c with
  | true => exact ⟨H1, I1, q1⟩
  | false => exact hb wh pins s1 σ H1 Q I1 q1
theorem pt_not (ha : PT X a tA) : PT X (.UnaryOp .Not a pos) (tNot tA) := by
  intro pins s σ H Q I h
  exact isTrue_not (ha pins s σ H (fun c H1 => Q (!c) H1) I h)
noncomputable def tAndV (ta tb : TE) : TE := fun σ H Q => ta σ H fun x H1 => ∃ c, x = .bl c ∧ if c = true then tb σ H1 Q else Q (.bl false) H1
noncomputable def tOrV (ta tb : TE) : TE := fun σ H Q => ta σ H fun x H1 => ∃ c, x = .bl c ∧ if c = true then Q (.bl true) H1 else tb σ H1 Q
noncomputable def tNotV (ta : TE) : TE := fun σ H Q => ta σ H fun x H1 => ∃ c, x = .bl c ∧ Q (.bl (!c)) H1
theorem pe_one {op} {t : TE} (h : PE X a t) : PE X (.BoolOp op [a] pos) t := fun pins s σ H Q I hw => BoolOp_one (h pins s σ H Q I hw)
theorem pe_and (ha : PE X a ta) (hb : PE X (.BoolOp .And (b :: rest) pos) tb) : PE X (.BoolOp .And (a :: b :: rest) pos) (tAndV ta tb) := by
  intro pins s σ H Q I h
  refine BoolOp_and (thn (ha pins s σ H _ I h) fun v s1 ⟨x, H1, I1, r1, q1⟩ => ?_)
  obtain ⟨c, rfl, q1⟩ := q1
  cases r1
  refine wpAny_truthy_bool ?_
  cases c with
  | true => exact hb pins s1 σ H1 Q I1 q1
  | false => exact ⟨.bl false, H1, I1, rfl, q1⟩
theorem pe_or (ha : PE X a ta) (hb : PE X (.BoolOp .Or (b :: rest) pos) tb) : PE X (.BoolOp .Or (a :: b :: rest) pos) (tOrV ta tb) := by
  intro pins s σ H Q I h
  refine BoolOp_or (thn (ha pins s σ H _ I h) fun v s1 ⟨x, H1, I1, r1, q1⟩ => ?_)
  obtain ⟨c, rfl, q1⟩ := q1
  cases r1
  refine wpAny_truthy_bool ?_
  cases c with
  | false => exact hb pins s1 σ H1 Q I1 q1
  | true => exact ⟨.bl true, H1, I1, rfl, q1⟩
theorem pe_not (ha : PE X a ta) : PE X (.UnaryOp .Not a pos) (tNotV ta) := by
  intro pins s σ H Q I h
  refine UnaryOp_ (thn (ha pins s σ H _ I h) fun v s1 ⟨x, H1, I1, r1, q1⟩ => ?_)
  obtain ⟨c, rfl, q1⟩ := q1
  cases r1
  exact not_of (wpAny_truthy_bool ⟨.bl (!c), H1, I1, rfl, q1⟩)
noncomputable def tIf (t : TT) (ta tb : TE) : TE := fun σ H Q => t σ H fun c H1 => if c = true then ta σ H1 Q else tb σ H1 Q
theorem pe_ifExp {c : Expr} (hc : PT X c tA) (ha : PE X a ta) (hb : PE X b tb) : PE X (.IfExp c a b pos) (tIf tA ta tb) := by
  intro pins s σ H Q I h
  refine wpAny_IfExp (thn (hc pins s σ H _ I h) fun d s1 ⟨H1, I1, q1⟩ => ?_)
  cases d with
  | true => exact ha pins s1 σ H1 Q I1 q1
  | false => exact hb pins s1 σ H1 Q I1 q1
end
end L2
namespace L2
open PySem PySem.Spec PyProof.Rows
noncomputable def SqL (K : PySem.W.Frag) (H : Hp) (a : Addr) (xs : List V) : Prop :=
  Rd H a (.lst xs) ∨
    ∃ (o : Obj) (its : Array Value) (n : Nat), K.lookup a = some o ∧ o.cls = .type "list" ∧ o.dict = none ∧ o.data = .seq its n ∧ its.size ≤ sizeLine ∧ Vals xs its.toList
noncomputable def SqT (K : PySem.W.Frag) (H : Hp) (a : Addr) (xs : List V) : Prop :=
  Rd H a (.tup xs) ∨
    ∃ (o : Obj) (its : Array Value) (n : Nat), K.lookup a = some o ∧ o.cls = .type "tuple" ∧ o.data = .seq its n ∧ its.size ≤ sizeLine ∧ Vals xs its.toList
noncomputable def absV : Value → Option V
  | .none => some .non
  | .bool b => some (.bl b)
  | .int i _ => some (.int i)
  | .str x _ => some (.str x)
  | .bytes b _ => some (.byt b)
  | .float b _ => some (.flt b)
  | .ref a => some (.ref a)
  | .type n => some (.ty n)
  | _ => none
theorem RelV.abs {x : V} {u : Value} (r : RelV x u) : absV u = some x := by
  cases x with
  | non => cases r; rfl
  | bl _ => cases r; rfl
  | int _ => obtain ⟨t, rfl⟩ := r; rfl
  | str _ => obtain ⟨t, rfl⟩ := r; rfl
  | byt _ => obtain ⟨t, rfl⟩ := r; rfl
  | flt _ => obtain ⟨t, rfl⟩ := r; rfl
  | ref _ => cases r; rfl
  | ty _ => cases r; rfl
theorem RelV.inj {x y : V} {u : Value} (r : RelV x u) (q : RelV y u) : x = y := Option.some.inj (r.abs.symm.trans q.abs)
theorem Vals.inj : ∀ {xs ys : List V} {us : List Value}, Vals xs us → Vals ys us → xs = ys
  | _, _, _, .nil, .nil => rfl
  | _, _, _, .cons r t, .cons r' t' => by rw [r.inj r', Vals.inj t t']
section
variable {X : Cx} {pins : List (Addr × Obj)} {σ : St} {H : Hp} {s : Shared} {a : Addr} {xs ys : List V}
theorem SqL.of {K : PySem.W.Frag} (h : H a = some (.lst xs)) : SqL K H a xs := .inl (.inl h)
theorem SqT.of {K : PySem.W.Frag} (h : H a = some (.tup xs)) : SqT K H a xs := .inl (.inl h)
theorem Inv.list (I : Inv X pins σ H s) (h : SqL X.K H a xs) : ∃ its : List Value, Vals xs its ∧ PlainL s.heap a its.toArray ∧ xs.length ≤ sizeLine := by
  rcases h with h | ⟨o, its, n, hk, hc, hd, hs, hz, r⟩
  · obtain ⟨z, its, n, r, e⟩ := h.ok I.hok
    exact ⟨its, r, ⟨_, n, e, rfl, rfl, rfl⟩, z⟩
  · refine ⟨its.toList, r, ⟨o, n, I.kIn a o hk, hc, hd, by simpa using hs⟩, ?_⟩
    have e := r.length
    simp only [Array.length_toList] at e
    omega
theorem Inv.tuple (I : Inv X pins σ H s) (h : SqT X.K H a xs) : ∃ its : List Value, Vals xs its ∧ IsTup s.heap a its.toArray ∧ xs.length ≤ sizeLine := by
  rcases h with h | ⟨o, its, n, hk, hc, hs, hz, r⟩
  · obtain ⟨z, its, r, p⟩ := h.ok I.hok
    exact ⟨its, r, p, z⟩
  · refine ⟨its.toList, r, ⟨o, I.kIn a o hk, hc, n, by simpa using hs⟩, ?_⟩
    have e := r.length
    simp only [Array.length_toList] at e
    omega
theorem Inv.list_inj (I : Inv X pins σ H s) (h : SqL X.K H a xs) (h' : SqL X.K H a ys) : xs = ys := by
  obtain ⟨its, r, ⟨o, n, e, _, _, d⟩, _⟩ := I.list h
  obtain ⟨its', r', ⟨o', n', e', _, _, d'⟩, _⟩ := I.list h'
  rw [e] at e'; cases e'
  rw [d] at d'
  injection d' with d1 _
  have : its = its' := by simpa using congrArg Array.toList d1
  subst this
  exact r.inj r'
theorem Inv.tuple_inj (I : Inv X pins σ H s) (h : SqT X.K H a xs) (h' : SqT X.K H a ys) : xs = ys := by
  obtain ⟨its, r, ⟨o, e, _, n, d⟩, _⟩ := I.tuple h
  obtain ⟨its', r', ⟨o', e', _, n', d'⟩, _⟩ := I.tuple h'
  rw [e] at e'; cases e'
  rw [d] at d'
  injection d' with d1 _
  have : its = its' := by simpa using congrArg Array.toList d1
  subst this
  exact r.inj r'
end
noncomputable abbrev Cx.wish (X : Cx) (E : Value → Shared → Prop) : Cx := { X with xe := E }
noncomputable abbrev Cx.nox (X : Cx) : Cx := X.wish fun _ _ => False
theorem Cx.Ok.wish {X : Cx} (ok : X.Ok) (E : Value → Shared → Prop) : (X.wish E).Ok :=
  ⟨ok.mod, ok.kind, ok.glob, ok.blt, ok.above, ok.inj, ok.has, ok.cab, ok.hd, ok.frames, ok.stk, ok.exf, ok.bs, ok.bsz, ok.noex, ok.exfs, ok.funs, ok.frf⟩
theorem Cx.Ok.unwish {X : Cx} {E : Value → Shared → Prop} (ok : (X.wish E).Ok) : X.Ok :=
  ⟨ok.mod, ok.kind, ok.glob, ok.blt, ok.above, ok.inj, ok.has, ok.cab, ok.hd, ok.frames, ok.stk, ok.exf, ok.bs, ok.bsz, ok.noex, ok.exfs, ok.funs, ok.frf⟩
section
variable {X : Cx} {pins : List (Addr × Obj)} {σ : St} {H : Hp} {s : Shared} {E : Value → Shared → Prop}
theorem Inv.wish (I : Inv X pins σ H s) (E : Value → Shared → Prop) : Inv (X.wish E) pins σ H s := ⟨I.ok.wish E, I.os, I.bare, I.base, I.loc, I.cell, I.free, I.freeC, I.pin, I.hok, I.len⟩
theorem Inv.unwish (I : Inv (X.wish E) pins σ H s) : Inv X pins σ H s := ⟨I.ok.unwish, I.os, I.bare, I.base, I.loc, I.cell, I.free, I.freeC, I.pin, I.hok, I.len⟩
theorem SP.unwish {D : Ends} {f : Flow} {s' : Shared} (h : SP (X.wish E) pins D f s') : SP X pins D f s' := by
  cases f with
  | next => obtain ⟨σ', H', I, q⟩ := h; exact ⟨σ', H', I.unwish, q⟩
  | brk => obtain ⟨σ', H', I, q⟩ := h; exact ⟨σ', H', I.unwish, q⟩
  | cont => obtain ⟨σ', H', I, q⟩ := h; exact ⟨σ', H', I.unwish, q⟩
  | ret u => obtain ⟨v, σ', H', I, r, q⟩ := h; exact ⟨v, σ', H', I.unwish, r, q⟩
theorem PSs.nox {st : List Stmt} {t : TS} (h : PSs X.nox st t) : PSs X st t := fun pins s σ H D I hw =>
  wpAny_mono (h pins s σ H D (I.wish _) hw) (fun _ _ q => q.unwish) fun _ _ z => False.elim z
end
section
variable {X : Cx} {st : Stmt} {rest : List Stmt} {t u : TS} {e : Expr} {te : TE} {pos : Pos}
noncomputable def tNext : TS := fun D σ H => D.nx σ H
noncomputable def tSeq (t u : TS) : TS := fun D σ H => t { D with nx := u D } σ H
theorem pss_nil : PSs X [] tNext := fun _ _ σ H _ I h => wpAny_execs_nil ⟨σ, H, I, h⟩
theorem pss_cons (h1 : PS X st t) (h2 : PSs X rest u) : PSs X (st :: rest) (tSeq t u) := by
  intro pins s σ H D I h
  refine wpAny_execs_cons (thn (h1 pins s σ H { D with nx := u D } I h) fun f s1 q => ?_)
  cases f with
  | next =>
    obtain ⟨σ', H', I', q⟩ := q
    exact h2 pins s1 σ' H' D I' q
  | ret v => exact q
  | brk => exact q
  | cont => exact q
theorem pss_one (h1 : PS X st t) : PSs X [st] t := by
  intro pins s σ H D I h
  refine wpAny_execs_cons (thn (h1 pins s σ H D I h) fun f s1 q => ?_)
  cases f with
  | next => exact wpAny_execs_nil q
  | ret v => exact q
  | brk => exact q
  | cont => exact q
theorem Inv.quiet {pins : List (Addr × Obj)} {σ : St} {H : Hp} {s : Shared} (I : Inv X pins σ H s) : interactive X.env = false := by simp [interactive, I.ok.kind]
noncomputable def tDrop (te : TE) : TS := fun D σ H => te σ H fun _ H1 => D.nx σ H1
theorem ps_expr (he : PE X e te) (hs : swapsWith e none pos.line X.env = pure false := by rfl) : PS X (.Expr e pos) (tDrop te) := by
  intro pins s σ H D I h
  exact wpAny_Expr_any (thn (he pins s σ H _ I h) fun v s1 ⟨x, H1, I1, r1, q1⟩ => ⟨σ, H1, I1, q1⟩) I.quiet hs
noncomputable def tRet (te : TE) : TS := fun D σ H => te σ H D.rt
theorem ps_ret (he : PE X e te) : PS X (.Return (some e) pos) (tRet te) := by
  intro pins s σ H D I h
  exact wpAny_Return_some (thn (he pins s σ H _ I h) fun v s1 ⟨x, H1, I1, r1, q1⟩ => ⟨x, σ, H1, I1, r1, q1⟩)
noncomputable def tIfS (c : TT) (t u : TS) : TS := fun D σ H => c σ H fun b H1 => if b = true then t D σ H1 else u D σ H1
theorem ps_if {c : Expr} {a b : List Stmt} {tc : TT} (hc : PT X c tc) (ha : PSs X a t) (hb : PSs X b u) : PS X (.If c a b pos) (tIfS tc t u) := by
  intro pins s σ H D I h
  refine wpAny_If (thn (hc pins s σ H _ I h) fun d s1 ⟨H1, I1, q1⟩ => ?_)
  cases d with
  | true => exact ha pins s1 σ H1 D I1 q1
  | false => exact hb pins s1 σ H1 D I1 q1
end
noncomputable abbrev TG := V → St → Hp → (St → Hp → Prop) → Prop
noncomputable abbrev TGs := List V → St → Hp → (St → Hp → Prop) → Prop
noncomputable def PG (X : Cx) (target : Expr) (t : TG) : Prop :=
  ∀ (pins : List (Addr × Obj)) (s : Shared) (σ : St) (H : Hp) (v : V) (u : Value) (Q : St → Hp → Prop), Inv X pins σ H s → RelV v u → t v σ H Q →
    wpAny (model X.prog X.w) X.A (assign target X.env u) (fun _ s' => ∃ σ' H', Inv X pins σ' H' s' ∧ Q σ' H') X.xe s
noncomputable def PGs (X : Cx) (ts : List Expr) (t : TGs) : Prop :=
  ∀ (pins : List (Addr × Obj)) (s : Shared) (σ : St) (H : Hp) (vs : List V) (us : List Value) (Q : St → Hp → Prop), Inv X pins σ H s → Vals vs us → t vs σ H Q →
    wpAny (model X.prog X.w) X.A (assignInOrder ((assignEach ts X.env).map (·.2)) us) (fun _ s' => ∃ σ' H', Inv X pins σ' H' s' ∧ Q σ' H') X.xe s
noncomputable abbrev TSet := V → V → V → Hp → (Hp → Prop) → Prop
noncomputable def PSet (X : Cx) (t : TSet) : Prop :=
  ∀ (pins : List (Addr × Obj)) (s : Shared) (σ : St) (H : Hp) (o i v : V) (ov iv u : Value) (Q : Hp → Prop), Inv X pins σ H s → RelV o ov → RelV i iv → RelV v u → t o i v H Q →
    wpAny (model X.prog X.w) X.A (setItem ov iv u) (fun _ s' => ∃ H', Inv X pins σ H' s' ∧ Q H') X.xe s
section
variable {X : Cx} {pos : Pos}
noncomputable def gName (i : Nat) : TG := fun v σ H Q => Q (σ.set i (some v)) H
theorem pg_name {i : Nat} {x : Str} (hN : X.N.Nodup) (hi : X.N[i]? = some x) (hx : Loc X.env.scope x) (hf : X.fn x = true ∨ X.env.scope.names.lookup x = some .local := by first | exact .inl rfl | exact .inr rfl | assumption) : PG X (.Name x pos) (gName i) := by
  intro pins s σ H v u Q I r h
  exact wpAny_assign_Name (store_ok I hN hi hx r (fun s' I' => ⟨_, H, I', h⟩) hf)
noncomputable def gNil : TGs := fun vs σ H Q => vs = [] ∧ Q σ H
noncomputable def gCons (t : TG) (u : TGs) : TGs := fun vs σ H Q => ∃ v r, vs = v :: r ∧ t v σ H fun σ' H' => u r σ' H' Q
theorem pgs_nil : PGs X [] gNil := by
  intro pins s σ H vs us Q I r h
  obtain ⟨e, h⟩ := h
  subst e
  cases r
  exact assignInOrder_nil ⟨σ, H, I, h⟩
theorem pgs_cons {e : Expr} {es : List Expr} {t : TG} {u : TGs} (h1 : PG X e t) (h2 : PGs X es u)
    (hs : (assignEach (e :: es) X.env).map (·.2) = assign e X.env :: (assignEach es X.env).map (·.2) := by rfl) : PGs X (e :: es) (gCons t u) := by
  intro pins s σ H vs us Q I r h
  obtain ⟨v, vr, e1, h⟩ := h
  subst e1
  cases r with
  | cons r rr =>
    rw [hs]
    refine assignInOrder_cons (thn (h1 pins s σ H _ _ _ I r h) fun _ s1 ⟨σ1, H1, I1, q1⟩ => ?_)
    exact h2 pins s1 σ1 H1 _ _ Q I1 rr q1
noncomputable def gTup (K : PySem.W.Frag) (n : Nat) (t : TGs) : TG := fun v σ H Q => ∃ a xs, v = .ref a ∧ SqT K H a xs ∧ xs.length = n ∧ t xs σ H Q
theorem pg_tup {es : List Expr} {k : Nat} {t : TGs} {n : Nat} (hc : X.calm = true) (h : PGs X es t)
    (hn : (assignEach es X.env).length = n := by rfl) (hst : (assignEach es X.env).findIdx? (·.1) = none := by rfl) : PG X (.Tuple es k pos) (gTup X.K n t) := by
  intro pins s σ H v u Q I r hw
  obtain ⟨a, xs, e1, hq, hl, hw⟩ := hw
  subst e1
  cases r
  obtain ⟨its, rv, ht, hz⟩ := I.tuple hq
  refine assign_Tuple_tuple (I.ok.hd hc) ht (by simp [hn, ← hl, rv.length]) hst fun h' hx => ?_
  have I1 : Inv X pins σ H { s with heap := h' } := I.kept (t' := s.toks) fun b o e => hx b o (Nat.ne_of_lt (Heap.lt_size e)) e
  exact h pins _ σ H xs _ Q I1 (by simpa using rv) hw
noncomputable def gSub (to ti : TE) (t : TSet) : TG := fun v σ H Q => to σ H fun o H1 => ti σ H1 fun i H2 => t o i v H2 fun H3 => Q σ H3
theorem pg_sub {o i : Expr} {to ti : TE} {t : TSet} (ho : PE X o to) (hi : PE X i ti) (hs : PSet X t)
    (ha : ∀ v, assign (.Subscript o i pos) X.env v = (do
      let ov ← holding [v] (eval o X.env)
      let iv ← holding [v, ov] (eval i X.env)
      standAt pos
      holding [v, ov, iv] (setItem ov iv v)
      release [v, ov, iv] []) := by intro _; rfl) : PG X (.Subscript o i pos) (gSub to ti t) := by
  intro pins s σ H v u Q I r h
  rw [ha]
  refine wpAny_bind (wpAny_holding (thn (ho pins s σ H _ I h) fun ov s1 ⟨x, H1, I1, r1, q1⟩ => ?_))
  refine wpAny_bind (wpAny_holding (thn (hi pins s1 σ H1 _ I1 q1) fun iv s2 ⟨y, H2, I2, r2, q2⟩ => ?_))
  refine wpAny_bind (wpAny_standAt (wpAny_bind (wpAny_holding (thn (hs pins s2 σ H2 x y v ov iv u _ I2 r1 r2 r q2) fun _ s3 ⟨H3, I3, q3⟩ => ?_))))
  exact wpAny_release ⟨σ, H3, I3, q3⟩
noncomputable def tAsg (te : TE) (g : TG) : TS := fun D σ H => te σ H fun x H1 => g x σ H1 D.nx
theorem ps_asg {tg e : Expr} {te : TE} {g : TG} (he : PE X e te) (hg : PG X tg g) (hs : swapsWithSole [tg] e pos.line X.env = pure false := by rfl) (hw : swappedStores [tg] e X.env = pure none := by rfl)
    (h1 : (assignEach [tg] X.env).map (·.2) = [assign tg X.env] := by rfl) : PS X (.Assign [tg] e pos) (tAsg te g) := by
  intro pins s σ H D I h
  refine wpAny_Assign_stores (thn (he pins s σ H _ I h) fun v s1 ⟨x, H1, I1, r1, q1⟩ => ?_) hs hw
  rw [h1]
  exact thn (hg pins s1 σ H1 x v _ I1 r1 q1) fun _ s2 q => q
theorem ps_set {i : Nat} {x : Str} {e : Expr} {te : TE} {pos' : Pos} (hN : X.N.Nodup) (hi : X.N[i]? = some x) (hx : Loc X.env.scope x) (he : PE X e te) (hs : swapsWith e (some (.Name x pos')) pos.line X.env = pure false := by rfl) (hf : X.fn x = true ∨ X.env.scope.names.lookup x = some .local := by first | exact .inl rfl | exact .inr rfl | assumption) :
    PS X (.Assign [.Name x pos'] e pos) (tAsg te (gName i)) := by
  intro pins s σ H D I h
  refine wpAny_Assign_Name (thn (he pins s σ H _ I h) fun v s1 ⟨y, H1, I1, r1, q1⟩ => ?_) hs
  exact store_ok I1 hN hi hx r1 (fun s2 I2 => ⟨_, H1, I2, q1⟩) hf
noncomputable def tPar (i j : Nat) (ta : TA) : TS := fun D σ H => ta σ H fun vs H1 => ∃ v w, vs = [v, w] ∧ D.nx ((σ.set i (some v)).set j (some w)) H1
theorem ps_par {i j : Nat} {x y : Str} {a b : Expr} {ta : TA} {px py pt : Pos} {kt k2 pt2} (hc : X.calm = true) (hN : X.N.Nodup) (hi : X.N[i]? = some x) (hj : X.N[j]? = some y) (hij : i ≠ j)
    (hx : X.env.scope.names.lookup x = some .local) (hy : X.env.scope.names.lookup y = some .local) (ha : PA X [a, b] ta)
    (hw : swappedStores [.Tuple [.Name x px, .Name y py] kt pt] (.Tuple [a, b] k2 pt2) X.env = pure (some [x, y]))
    (hs : swapsWithSole [.Tuple [.Name x px, .Name y py] kt pt] (.Tuple [a, b] k2 pt2) pos.line X.env = pure false := by rfl) :
    PS X (.Assign [.Tuple [.Name x px, .Name y py] kt pt] (.Tuple [a, b] k2 pt2) pos) (tPar i j ta) := by
  intro pins s σ H D I h
  rw [exec_Assign_arm]
  refine wpAny_bind (wpAny_standAt ?_)
  rw [hs]
  refine wpAny_bind (wpAny_pure ?_)
  rw [if_neg (by decide)]
  refine wpAny_bind (Tuple_ (thn (ha _ pins s σ H _ I h) fun us s1 ⟨vs, H1, I1, r1, q1⟩ => ?_))
  obtain ⟨v, w, e1, q1⟩ := q1
  subst e1
  obtain ⟨u1, u2, rfl, rv, rw'⟩ : ∃ u1 u2, us = [u1, u2] ∧ RelV v u1 ∧ RelV w u2 := by
    cases r1 with
    | cons p q =>
      cases q with
      | cons p' q' =>
        cases q'
        exact ⟨_, _, rfl, p, p'⟩
  refine wpAny_newObj_type ?_ (by show 2 ≤ sizeLine; decide)
  have I2 : Inv X pins σ H1 { s1 with heap := s1.heap.push { cls := .type "tuple", data := .seq [u1, u2].toArray } } := I1.kept (t' := s1.toks) fun b o e => Heap.get?_push_of_some _ e
  rw [hw]
  refine wpAny_bind (wpAny_pure ?_)
  show wpAny (model X.prog X.w) X.A (do rule "assign.swapped-stores"; let items ← unpackItems (.ref s1.heap.objs.size) 2 none; assignInOrder [fun v => bindName X.env y v, fun v => bindName X.env x v] items.reverse; pure Flow.next) _ _ _
  refine wpAny_bind (wpAny_rule (wpAny_bind (unpackItems_tuple (items := #[u1, u2]) (I.ok.hd hc) (IsTup.new s1.heap _) fun h' hx' => ?_)))
  have I3 := I2.kept (h' := h') (t' := s1.toks) fun b o e => hx' b o (Nat.ne_of_lt (Heap.lt_size e)) e
  show wpAny _ _ (assignInOrder [fun v => bindName X.env y v, fun v => bindName X.env x v] [u2, u1] >>= fun _ => pure Flow.next) _ _ _
  refine wpAny_bind (assignInOrder_cons (wpAny_bindName (store_ok I3 hN hj (.inl hy) rw' (fun s2 I4 => ?_) (.inr hy))))
  refine assignInOrder_cons (wpAny_bindName (store_ok I4 hN hi (.inl hx) rv (fun s3 I5 => assignInOrder_nil (wpAny_pure ?_)) (.inr hx)))
  rw [List.set_comm _ _ (Ne.symm hij)] at I5
  exact ⟨_, H1, I5, q1⟩
end
section
variable {X : Cx} {pos : Pos}
end
structure It where
  go : Nat → Hp → Prop
  yld : Nat → Hp → V → Hp → Prop
  stop : Nat → Hp → Prop
noncomputable def FpOk (X : Cx) (pins : List (Addr × Obj)) (H : Hp) (b : Addr) : Prop :=
  H b = none ∧ b ≠ X.env.locals ∧ b ∉ X.fs ∧ (b ∈ X.ex ∨ X.s₀.heap.objs.size ≤ b) ∧ (∀ x c, X.env.cells.lookup x = some c → c ≠ b) ∧ ∀ p ∈ X.pn ++ pins, p.1 ≠ b
theorem Inv.fpOk {X : Cx} {pins : List (Addr × Obj)} {σ : St} {H H' : Hp} {s : Shared} {b : Addr} (I : Inv X pins σ H s) (hb : s.heap.objs.size ≤ b) (hn : H' b = none) : FpOk X pins H' b := by
  refine ⟨hn, Nat.ne_of_gt (Nat.lt_of_lt_of_le I.lt hb), I.nofs hb, .inr (Nat.le_trans I.sz hb), fun x c e z => ?_, fun p hp z => ?_⟩
  · obtain ⟨v, q⟩ := I.cell x c e
    exact absurd (Nat.lt_of_lt_of_le q.lt (by rw [z]; exact hb)) (Nat.lt_irrefl _)
  · exact absurd (Nat.lt_of_lt_of_le (Heap.lt_size (I.pin p hp).1) (by rw [z]; exact hb)) (Nat.lt_irrefl _)
structure Turn (P : Program) (w : World) (K : PySem.W.Frag) (tg : Expr) (J : It) (fp : List Addr) (it : Addr) (tn : Nat → Heap → Prop) : Prop where
  mem : it ∈ fp
  obj : ∀ i h, tn i h → ∀ b ∈ fp, ∃ o, h.get? b = some o ∧ ∀ v, o.data ≠ .cell v
  keep : ∀ i h h', tn i h → (∀ b ∈ fp, ∀ o, h.get? b = some o → h'.get? b = some o) → tn i h'
  item : ∀ (X : Cx), X.prog = P → X.w = w → X.K = K → X.calm = true → ∀ (i : Nat) (pins : List (Addr × Obj)) (s : Shared) (σ : St) (H : Hp) (E : Value → Shared → Prop), Inv X pins σ H s → (∀ b ∈ fp, FpOk X pins H b) → tn i s.heap → J.go i H →
    wpAny (model P w) X.A (pyNext (.ref it)) (fun r s1 => ∃ u, r = some u ∧
      wpAny (model P w) X.A (letOwnedTupleGo tg (.ref it) u) (fun _ s2 => ∃ x H', Inv X pins σ H' s2 ∧ RelV x u ∧ J.yld i H x H' ∧ tn (i + 1) s2.heap ∧ ∀ b ∈ fp, H' b = none) E s1) E s
  done : ∀ (X : Cx), X.prog = P → X.w = w → X.K = K → X.calm = true → ∀ (i : Nat) (pins : List (Addr × Obj)) (s : Shared) (σ : St) (H : Hp) (E : Value → Shared → Prop), Inv X pins σ H s → (∀ b ∈ fp, FpOk X pins H b) → tn i s.heap → J.stop i H →
    wpAny (model P w) X.A (pyNext (.ref it)) (fun r s1 => r = none ∧ Inv X pins σ H s1) E s
  self : ∀ (A : Around) (i : Nat) (s : Shared) (Q : Value → Shared → Prop) (E : Value → Shared → Prop), tn i s.heap → Q (.ref it) s → wpAny (model P w) A (pyIter (.ref it)) Q E s
noncomputable abbrev TI := St → Hp → (It → Hp → Prop) → Prop
noncomputable def PIE (X : Cx) (pins : List (Addr × Obj)) (σ : St) (tg : Expr) (R : It → Hp → Prop) (itv : Value) (s2 : Shared) : Prop :=
  ∃ (it : Addr) (fp : List Addr) (tn : Nat → Heap → Prop) (J : It) (H' : Hp), itv = .ref it ∧ Inv X pins σ H' s2 ∧ Turn X.prog X.w X.K tg J fp it tn ∧ tn 0 s2.heap ∧ (∀ b ∈ fp, FpOk X pins H' b) ∧ R J H'
noncomputable def PI (X : Cx) (tg iter : Expr) (wi : TI) : Prop :=
  ∀ (pins : List (Addr × Obj)) (s : Shared) (σ : St) (H : Hp) (R : It → Hp → Prop), Inv X pins σ H s → wi σ H R →
    wpAny (model X.prog X.w) X.A (eval iter X.env) (fun v s1 => wpAny (model X.prog X.w) X.A (pyIter v) (PIE X pins σ tg R) X.xe s1) X.xe s
theorem go_of {M : Model} {A : Around} {E : Value → Shared → Prop} {s : Shared} {tg : Expr} {it : Addr} {u : Value} {o : Obj} {n : String} {vs : Array Value} {Q : Unit → Shared → Prop} (ho : s.heap.get? it = some o) (hc : o.cls = .type n) (hd : o.data = .fields vs)
    (hn : ["enumerate", "zip", "dict_itemiterator", "dict_reverseitemiterator", "odict_iterator", "itertools.zip_longest", "itertools.pairwise"].contains n = false) (hQ : Q () s) : wpAny M A (letOwnedTupleGo tg (.ref it) u) Q E s := by
  unfold letOwnedTupleGo
  cases tg <;> first
    | exact wpAny_pure hQ
    | (cases u <;> first
        | exact wpAny_pure hQ
        | (refine wpAny_bind (wpAny_load ho ?_)
           rw [hc, hd]
           show wpAny M A (if (["enumerate", "zip", "dict_itemiterator", "dict_reverseitemiterator", "odict_iterator", "itertools.zip_longest", "itertools.pairwise"].contains n && vs[0]? == some (rawInt _)) = true then _ else _) Q E s
           rw [if_neg (by intro h; rw [hn, Bool.false_and] at h; cases h)]
           exact wpAny_pure hQ))
noncomputable def Itl (K : PySem.W.Frag) (a : Addr) : It :=
  ⟨fun i H => ∃ xs x, SqL K H a xs ∧ xs[i]? = some x, fun i H x H' => H' = H ∧ ∀ xs, SqL K H a xs → xs[i]? = some x, fun i H => ∃ xs, SqL K H a xs ∧ xs.length ≤ i⟩
noncomputable def Itt (K : PySem.W.Frag) (a : Addr) : It :=
  ⟨fun i H => ∃ xs x, SqT K H a xs ∧ xs[i]? = some x, fun i H x H' => H' = H ∧ ∀ xs, SqT K H a xs → xs[i]? = some x, fun i H => ∃ xs, SqT K H a xs ∧ xs.length ≤ i⟩
noncomputable def Itr (lo : Int) (n : Nat) : It := ⟨fun i _ => i < n, fun i H x H' => H' = H ∧ x = .int (lo + i), fun i _ => n ≤ i⟩
theorem turn_list {P : Program} {w : World} {K : PySem.W.Frag} {tg : Expr} (a it : Addr) : Turn P w K tg (Itl K a) [it] it (fun i h => h.IsListIter it a i) where
  mem := by simp
  obj := fun i h st b hb => by
    have e : b = it := by simpa using hb
    subst e
    obtain ⟨o, e, c, d⟩ := st
    exact ⟨o, e, fun v z => by rw [d] at z; cases z⟩
  keep := fun i h h' st k => st.at fun o e => k it (by simp) o e
  item := by
    intro X hP hw hK hc i pins s σ H E I hf st hg
    subst hP hw hK
    obtain ⟨xs, x, hq, hx⟩ := hg
    obtain ⟨its, rv, p, hz⟩ := I.list hq
    obtain ⟨u, hu, ru⟩ := rv.get hx
    obtain ⟨f0, f1, f2, f3, f4, f5⟩ := hf it (by simp)
    refine wpAny_pyNext_list_item st p.isList (x := u) (by simpa using hu) fun h' st' sb => ?_
    have I1 : Inv X pins σ H { s with heap := h' } := I.turned (t' := s.toks) (fun b o hb e => (sb.2 b hb).trans e) f0 f1 f3 f4 f5
    obtain ⟨o, e, c, d⟩ := id st'
    exact ⟨u, rfl, go_of (s := { s with heap := h' }) e c d (by decide) ⟨x, H, I1, ru, ⟨rfl, fun ys hy => by rw [I.list_inj hy hq]; exact hx⟩, st', fun b hb => (hf b hb).1⟩⟩
  done := by
    intro X hP hw hK hc i pins s σ H E I hf st hg
    subst hP hw hK
    obtain ⟨xs, hq, hx⟩ := hg
    obtain ⟨its, rv, p, hz⟩ := I.list hq
    obtain ⟨f0, f1, f2, f3, f4, f5⟩ := hf it (by simp)
    have hl := rv.length
    exact wpAny_pyNext_list_end (I.ok.hd hc) st p.isList (by simp; omega) fun h' eb => ⟨rfl, I.turned (t' := s.toks) (fun b o hb e => eb b o hb e) f0 f1 f3 f4 f5⟩
  self := fun _ _ _ _ _ st h => wpAny_pyIter_listiter st h
theorem turn_tuple {P : Program} {w : World} {K : PySem.W.Frag} {tg : Expr} (a it : Addr) : Turn P w K tg (Itt K a) [it] it (fun i h => h.IsTupleIter it a i) where
  mem := by simp
  obj := fun i h st b hb => by
    have e : b = it := by simpa using hb
    subst e
    obtain ⟨o, e, c, d⟩ := st
    exact ⟨o, e, fun v z => by rw [d] at z; cases z⟩
  keep := fun i h h' st k => st.at fun o e => k it (by simp) o e
  item := by
    intro X hP hw hK hc i pins s σ H E I hf st hg
    subst hP hw hK
    obtain ⟨xs, x, hq, hx⟩ := hg
    obtain ⟨its, rv, p, hz⟩ := I.tuple hq
    obtain ⟨u, hu, ru⟩ := rv.get hx
    obtain ⟨f0, f1, f2, f3, f4, f5⟩ := hf it (by simp)
    refine wpAny_pyNext_tuple_item st (show s.heap.IsTuple a its.toArray from p) (x := u) (by simpa using hu) fun h' st' sb => ?_
    have I1 : Inv X pins σ H { s with heap := h' } := I.turned (t' := s.toks) (fun b o hb e => (sb.2 b hb).trans e) f0 f1 f3 f4 f5
    obtain ⟨o, e, c, d⟩ := id st'
    exact ⟨u, rfl, go_of (s := { s with heap := h' }) e c d (by decide) ⟨x, H, I1, ru, ⟨rfl, fun ys hy => by rw [I.tuple_inj hy hq]; exact hx⟩, st', fun b hb => (hf b hb).1⟩⟩
  done := by
    intro X hP hw hK hc i pins s σ H E I hf st hg
    subst hP hw hK
    obtain ⟨xs, hq, hx⟩ := hg
    obtain ⟨its, rv, p, hz⟩ := I.tuple hq
    obtain ⟨f0, f1, f2, f3, f4, f5⟩ := hf it (by simp)
    have hl := rv.length
    exact wpAny_pyNext_tuple_end (I.ok.hd hc) st (show s.heap.IsTuple a its.toArray from p) (by simp; omega) fun h' eb => ⟨rfl, I.turned (t' := s.toks) (fun b o hb e => eb b o hb e) f0 f1 f3 f4 f5⟩
  self := fun _ _ _ _ _ st h => wpAny_pyIter_tupleiter st h
theorem turn_range {P : Program} {w : World} {K : PySem.W.Frag} {tg : Expr} (it : Addr) (lo : Int) (n : Nat) : Turn P w K tg (Itr lo n) [it] it (fun i h => IsRangeIter h it (lo + (i : Nat) * 1) ((n : Int) - (i : Nat)) 1) where
  mem := by simp
  obj := fun i h st b hb => by
    have e : b = it := by simpa using hb
    subst e
    exact ⟨_, st, fun v z => by
      have z' : Data.fields _ = Data.cell v := z
      cases z'⟩
  keep := fun i h h' st k => k it (by simp) _ st
  item := by
    intro X hP hw hK hc i pins s σ H E I hf st hg
    subst hP hw hK
    obtain ⟨f0, f1, f2, f3, f4, f5⟩ := hf it (by simp)
    have W := Walks.range (prog := X.prog) (w := X.w) (I.ok.hd hc) it lo 1 n
    refine W.item i s _ _ hg st fun v h' tk hv st' kk => ?_
    obtain ⟨t, rfl⟩ := hv
    have I1 : Inv X pins σ H { s with heap := h', toks := tk } := I.turned (fun b o hb e => kk b o (by simpa using hb) e) f0 f1 f3 f4 f5
    refine ⟨_, rfl, go_of (s := { s with heap := h', toks := tk }) (n := "range_iterator") st' rfl rfl (by decide) ⟨.int (lo + i), H, I1, ⟨t, ?_⟩, ⟨rfl, rfl⟩, st', fun b hb => (hf b hb).1⟩⟩
    rw [Int.mul_one]
  done := by
    intro X hP hw hK hc i pins s σ H E I hf st hg
    subst hP hw hK
    obtain ⟨f0, f1, f2, f3, f4, f5⟩ := hf it (by simp)
    exact wpAny_pyNext_range_end (I.ok.hd hc) st (by have : n ≤ i := hg; omega) fun h' eb => ⟨rfl, I.turned (t' := s.toks) (fun b o hb e => eb b o hb e) f0 f1 f3 f4 f5⟩
  self := fun _ _ _ _ _ st h => wpAny_pyIter_rangeiter st h
end L2
namespace L2
open PySem PySem.Spec PyProof.Rows
section
variable {X : Cx} {tg : Expr}
noncomputable def iList (K : PySem.W.Frag) (tl : TE) : TI := fun σ H R => tl σ H fun x H1 => ∃ a, x = .ref a ∧ (∃ xs, SqL K H1 a xs) ∧ R (Itl K a) H1
noncomputable def iTup (K : PySem.W.Frag) (tl : TE) : TI := fun σ H R => tl σ H fun x H1 => ∃ a, x = .ref a ∧ (∃ xs, SqT K H1 a xs) ∧ R (Itt K a) H1
theorem pi_list {l : Expr} {tl : TE} (hl : PE X l tl) : PI X tg l (iList X.K tl) := by
  intro pins s σ H R I h
  refine thn (hl pins s σ H _ I h) fun v s1 ⟨x, H1, I1, r1, q1⟩ => ?_
  obtain ⟨a, e, ⟨xs, hq⟩, q⟩ := q1
  subst e
  cases r1
  obtain ⟨its, rv, p, hz⟩ := I1.list hq
  refine wpAny_pyIter_list p.isList ?_
  refine ⟨s1.heap.objs.size, [s1.heap.objs.size], _, _, H1, rfl, I1.kept (t' := s1.toks) fun b o e => Heap.get?_push_of_some _ e, turn_list a _, ⟨_, Heap.get?_push_size _ rfl, rfl, rfl⟩, fun b hb => ?_, q⟩
  have e : b = s1.heap.objs.size := by simpa using hb
  subst e
  exact I1.fpOk (Nat.le_refl _) (I1.hok.fresh (Nat.le_refl _))
theorem pi_tup {l : Expr} {tl : TE} (hl : PE X l tl) : PI X tg l (iTup X.K tl) := by
  intro pins s σ H R I h
  refine thn (hl pins s σ H _ I h) fun v s1 ⟨x, H1, I1, r1, q1⟩ => ?_
  obtain ⟨a, e, ⟨xs, hq⟩, q⟩ := q1
  subst e
  cases r1
  obtain ⟨its, rv, p, hz⟩ := I1.tuple hq
  refine wpAny_pyIter_tuple (show s1.heap.IsTuple a its.toArray from p) ?_
  refine ⟨s1.heap.objs.size, [s1.heap.objs.size], _, _, H1, rfl, I1.kept (t' := s1.toks) fun b o e => Heap.get?_push_of_some _ e, turn_tuple a _, ⟨_, Heap.get?_push_size _ rfl, rfl, rfl⟩, fun b hb => ?_, q⟩
  have e : b = s1.heap.objs.size := by simpa using hb
  subst e
  exact I1.fpOk (Nat.le_refl _) (I1.hok.fresh (Nat.le_refl _))
theorem range_it {pins : List (Addr × Obj)} {σ : St} {H : Hp} {s : Shared} {R : It → Hp → Prop} {E : Value → Shared → Prop} {lo hi : Int} {t u v : Tok} {tk : Nat} (I : Inv X pins σ H s) (h1 : -(2 ^ 62) ≤ lo) (h2 : lo < 2 ^ 62) (h3 : -(2 ^ 62) ≤ hi) (h4 : hi < 2 ^ 62)
    (q : R (Itr lo (hi - lo).toNat) H) : wpAny (model X.prog X.w) X.A (pyIter (.ref s.heap.objs.size)) (PIE X pins σ tg R) E { s with heap := s.heap.push { cls := .type "range", data := .fields #[.int lo t, .int hi u, .int 1 v] }, toks := tk } := by
  refine wpAny_pyIter_range (IsRange.new ..) (small_one h1 h2 h3 h4) ?_
  have I1 : Inv X pins σ H { s with heap := s.heap.push { cls := .type "range", data := .fields #[.int lo t, .int hi u, .int 1 v] }, toks := tk } := I.kept fun b o e => Heap.get?_push_of_some _ e
  refine ⟨(s.heap.push { cls := .type "range", data := .fields #[.int lo t, .int hi u, .int 1 v] }).objs.size, [(s.heap.push { cls := .type "range", data := .fields #[.int lo t, .int hi u, .int 1 v] }).objs.size], _, _, H, rfl,
    I1.kept (t' := tk) fun b o e => Heap.get?_push_of_some _ e, turn_range _ lo (hi - lo).toNat, ?_, fun b hb => ?_, q⟩
  · have e1 : lo + ((0 : Nat) : Int) * 1 = lo := by simp
    have e2 : (((hi - lo).toNat : Nat) : Int) - ((0 : Nat) : Int) = Builtin.Range.rangeSize lo hi 1 := by rw [rangeSize_one]; split <;> omega
    show IsRangeIter _ _ (lo + ((0 : Nat) : Int) * 1) ((((hi - lo).toNat : Nat) : Int) - ((0 : Nat) : Int)) 1
    rw [e1, e2]
    exact Heap.get?_push_size _ rfl
  · have e : b = (s.heap.push { cls := .type "range", data := .fields #[.int lo t, .int hi u, .int 1 v] }).objs.size := by simpa using hb
    subst e
    exact I1.fpOk (Nat.le_refl _) (I1.hok.fresh (Nat.le_refl _))
noncomputable def iRng1 (ta : TA) : TI := fun σ H R => ta σ H fun vs H1 => ∃ j : Int, vs = [.int j] ∧ -(2 ^ 62) ≤ j ∧ j < 2 ^ 62 ∧ R (Itr 0 j.toNat) H1
theorem pi_range1 {a : Expr} {ta : TA} {p pos : Pos} (hg : Gl X "range") (hm : X.mg "range" = none) (ha : PA X [a] ta) (hs : starEach [a] X.env = [(false, eval a X.env)] := by rfl) : PI X tg (.Call (.Name "range" p) [a] [] pos) (iRng1 ta) := by
  intro pins s σ H R I h
  refine Call_ (ld_blt I hg hm boot_range (PyProof.Rows.callWith_type1 (thn (ha pos pins s σ H _ I h) fun us s1 ⟨vs, H1, I1, r1, q1⟩ => ?_) hs rfl))
  obtain ⟨j, e, q1, q2, q⟩ := q1
  subst e
  cases r1 with
  | cons r rr =>
    cases rr
    obtain ⟨t, rfl⟩ := r
    exact call_range_1 (range_it I1 (by omega) (by omega) q1 q2 (by simpa using q))
noncomputable def tFor (wi : TI) (g : TG) (tb : TS) : TS := fun D σ H => wi σ H fun J H1 => ∃ W : Nat → Nat → St → Hp → Prop, (∃ m, W 0 m σ H1) ∧ ∀ i m σ H, W i m σ H →
  (J.stop i H ∧ D.nx σ H) ∨ (J.go i H ∧ ∃ N : St → Hp → Prop, (∀ σ' H', N σ' H' → ∃ m', m' < m ∧ W (i + 1) m' σ' H') ∧ ∀ x H', J.yld i H x H' → g x σ H' fun σ2 H2 => tb { D with nx := N, ct := N, bk := D.nx } σ2 H2)
noncomputable def pinsAt (fp : List Addr) (h : Heap) : List (Addr × Obj) := fp.filterMap fun b => (h.get? b).map fun o => (b, o)
theorem mem_pinsAt {fp : List Addr} {h : Heap} {b : Addr} {o : Obj} (hb : b ∈ fp) (e : h.get? b = some o) : (b, o) ∈ pinsAt fp h := List.mem_filterMap.mpr ⟨b, hb, by rw [e]; rfl⟩
theorem of_pinsAt {fp : List Addr} {h : Heap} {p : Addr × Obj} (hp : p ∈ pinsAt fp h) : p.1 ∈ fp ∧ h.get? p.1 = some p.2 := by
  obtain ⟨b, hb, e⟩ := List.mem_filterMap.mp hp
  cases q : h.get? b with
  | none => rw [q] at e; cases e
  | some o =>
    rw [q] at e
    have e' : (b, o) = p := Option.some.inj e
    subst e'
    exact ⟨hb, q⟩
theorem Inv.pinned {pins : List (Addr × Obj)} {σ : St} {H : Hp} {s : Shared} {fp : List Addr} (I : Inv X pins σ H s) (hf : ∀ b ∈ fp, FpOk X pins H b) (ho : ∀ b ∈ fp, ∃ o, s.heap.get? b = some o ∧ ∀ v, o.data ≠ .cell v) : Inv X (pins ++ pinsAt fp s.heap) σ H s :=
  I.pins_of fun p hp => (List.mem_append.mp hp).elim (fun z => I.pin p (List.mem_append_right _ z)) fun z => by
    obtain ⟨hb, e⟩ := of_pinsAt z
    obtain ⟨f0, f1, f2, _⟩ := hf p.1 hb
    obtain ⟨o, e', d⟩ := ho p.1 hb
    rw [e] at e'; cases e'
    exact ⟨e, f0, f1, f2, d⟩
theorem Inv.unpinned {pins pl : List (Addr × Obj)} {σ : St} {H : Hp} {s : Shared} (I : Inv X (pins ++ pl) σ H s) : Inv X pins σ H s := I.pins_of fun p hp => I.pin p (List.mem_append_right _ (List.mem_append_left _ hp))
theorem ps_for {iter : Expr} {body : List Stmt} {wi : TI} {g : TG} {tb : TS} {pos : Pos} (hp : PassesOwn (model X.prog X.w) X.A X.env X.xe) (hc : X.calm = true) (hi : PI X tg iter wi) (hg : PG X tg g) (hb : PSs X body tb)
    (hs : ∀ x, foldedSetIterable iter X.env x = pure x := by intro _; rfl) : PS X (.For tg iter body [] pos) (tFor wi g tb) := by
  intro pins s σ H D I h
  refine wpAny_For (thn (hi pins s σ H _ I h) fun v s1 h1 => thn h1 fun itv s2 h2 => ?_) hs
  obtain ⟨it, fp, tn, J, H2, e, I2, T, st2, f2, W, ⟨m0, w0⟩, turn⟩ := h2
  subst e
  -- what stays true of the iterator's objects through the loop
  have stat : ∀ {H' : Hp}, (∀ b ∈ fp, H' b = none) → ∀ b ∈ fp, FpOk X pins H' b := fun hn b hb => ⟨hn b hb, (f2 b hb).2⟩
  refine codeAny_forLoop_any (fun n s' => ∃ i σ' H', Inv X pins σ' H' s' ∧ tn i s'.heap ∧ (∀ b ∈ fp, H' b = none) ∧ W i n σ' H') ?_ m0 ⟨0, σ, H2, I2, st2, fun b hb => (f2 b hb).1, w0⟩
  rintro n s3 ⟨i, σ3, H3, I3, st3, fr3, w3⟩
  rcases turn i n σ3 H3 w3 with ⟨stop, qn⟩ | ⟨go, N, hN, step⟩
  · refine wpAny_passesOwn hp (thn (T.done X rfl rfl rfl hc i pins s3 σ3 H3 X.xe I3 (stat fr3) st3 stop) fun r s4 ⟨hr, I4⟩ => ?_)
    subst hr
    exact wpAny_execs_nil ⟨σ3, H3, I4, qn⟩
  · refine wpAny_passesOwn hp (thn (T.item X rfl rfl rfl hc i pins s3 σ3 H3 X.xe I3 (stat fr3) st3 go) fun r s4 ⟨u, hr, h4⟩ => ?_)
    subst hr
    refine wpAny_passesOwn hp (thn h4 fun _ s5 ⟨x, H5, I5, r5, y5, st5, fr5⟩ => ?_)
    have I5' := I5.pinned (stat fr5) (T.obj _ _ st5)
    refine wpAny_passesOwn hp (thn (hg _ s5 σ3 H5 x u _ I5' r5 (step x H5 y5)) fun _ s6 ⟨σ6, H6, I6, q6⟩ => ?_)
    refine wpAny_passesOwn hp (thn (hb _ s6 σ6 H6 _ I6 q6) fun f s7 q7 => ?_)
    have again : ∀ {σ7 : St} {H7 : Hp}, Inv X (pins ++ pinsAt fp s5.heap) σ7 H7 s7 → N σ7 H7 → ∃ m, m < n ∧ ∃ i σ' H', Inv X pins σ' H' s7 ∧ tn i s7.heap ∧ (∀ b ∈ fp, H' b = none) ∧ W i m σ' H' := fun {σ7 H7} I7 n7 => by
      obtain ⟨m', hm, w7⟩ := hN σ7 H7 n7
      refine ⟨m', hm, i + 1, σ7, H7, I7.unpinned, T.keep _ _ _ st5 fun b hb o e => (I7.pin (b, o) (List.mem_append_right _ (List.mem_append_right _ (mem_pinsAt hb e)))).1, fun b hb => ?_, w7⟩
      obtain ⟨o, e, d⟩ := T.obj _ _ st5 b hb
      exact (I7.pin (b, o) (List.mem_append_right _ (List.mem_append_right _ (mem_pinsAt hb e)))).2.1
    cases f with
    | next => obtain ⟨σ7, H7, I7, n7⟩ := q7; exact again I7 n7
    | cont => obtain ⟨σ7, H7, I7, n7⟩ := q7; exact again I7 n7
    | brk => obtain ⟨σ7, H7, I7, q7⟩ := q7; exact ⟨σ7, H7, I7.unpinned, q7⟩
    | ret v => obtain ⟨x7, σ7, H7, I7, r7, q7⟩ := q7; exact ⟨x7, σ7, H7, I7.unpinned, r7, q7⟩
end
theorem for_list {K : PySem.W.Frag} {a : Addr} {xs : List V} {g : TG} {tb : TS} {D : Ends} {σ : St} {H : Hp} (Pv : Nat → St → Hp → Prop) (h0 : Pv 0 σ H) (hl : ∀ i σ H, i ≤ xs.length → Pv i σ H → SqL K H a xs)
    (hs : ∀ i x σ H, xs[i]? = some x → Pv i σ H → g x σ H fun σ2 H2 => tb { D with nx := Pv (i + 1), ct := Pv (i + 1), bk := D.nx } σ2 H2) (hd : ∀ σ H, Pv xs.length σ H → D.nx σ H) :
    ∃ W : Nat → Nat → St → Hp → Prop, (∃ m, W 0 m σ H) ∧ ∀ i m σ H, W i m σ H →
      ((Itl K a).stop i H ∧ D.nx σ H) ∨ ((Itl K a).go i H ∧ ∃ N : St → Hp → Prop, (∀ σ' H', N σ' H' → ∃ m', m' < m ∧ W (i + 1) m' σ' H') ∧ ∀ x H', (Itl K a).yld i H x H' → g x σ H' fun σ2 H2 => tb { D with nx := N, ct := N, bk := D.nx } σ2 H2) := by
  refine ⟨fun i m σ H => m = xs.length - i ∧ i ≤ xs.length ∧ Pv i σ H, ⟨xs.length, by simp, Nat.zero_le _, h0⟩, ?_⟩
  rintro i m σ H ⟨rfl, hi, p⟩
  have q := hl i σ H hi p
  by_cases hlt : i < xs.length
  · refine .inr ⟨⟨xs, xs[i], q, by simp [hlt]⟩, Pv (i + 1), fun σ' H' p' => ⟨xs.length - (i + 1), by omega, rfl, hlt, p'⟩, fun x H' y => ?_⟩
    obtain ⟨e, y⟩ := y
    subst e
    exact hs i x σ _ (y xs q) p
  · have e : i = xs.length := by omega
    subst e
    exact .inl ⟨⟨xs, q, Nat.le_refl _⟩, hd σ H p⟩
theorem for_tup {K : PySem.W.Frag} {a : Addr} {xs : List V} {g : TG} {tb : TS} {D : Ends} {σ : St} {H : Hp} (Pv : Nat → St → Hp → Prop) (h0 : Pv 0 σ H) (hl : ∀ i σ H, i ≤ xs.length → Pv i σ H → SqT K H a xs)
    (hs : ∀ i x σ H, xs[i]? = some x → Pv i σ H → g x σ H fun σ2 H2 => tb { D with nx := Pv (i + 1), ct := Pv (i + 1), bk := D.nx } σ2 H2) (hd : ∀ σ H, Pv xs.length σ H → D.nx σ H) :
    ∃ W : Nat → Nat → St → Hp → Prop, (∃ m, W 0 m σ H) ∧ ∀ i m σ H, W i m σ H →
      ((Itt K a).stop i H ∧ D.nx σ H) ∨ ((Itt K a).go i H ∧ ∃ N : St → Hp → Prop, (∀ σ' H', N σ' H' → ∃ m', m' < m ∧ W (i + 1) m' σ' H') ∧ ∀ x H', (Itt K a).yld i H x H' → g x σ H' fun σ2 H2 => tb { D with nx := N, ct := N, bk := D.nx } σ2 H2) := by
  refine ⟨fun i m σ H => m = xs.length - i ∧ i ≤ xs.length ∧ Pv i σ H, ⟨xs.length, by simp, Nat.zero_le _, h0⟩, ?_⟩
  rintro i m σ H ⟨rfl, hi, p⟩
  have q := hl i σ H hi p
  by_cases hlt : i < xs.length
  · refine .inr ⟨⟨xs, xs[i], q, by simp [hlt]⟩, Pv (i + 1), fun σ' H' p' => ⟨xs.length - (i + 1), by omega, rfl, hlt, p'⟩, fun x H' y => ?_⟩
    obtain ⟨e, y⟩ := y
    subst e
    exact hs i x σ _ (y xs q) p
  · have e : i = xs.length := by omega
    subst e
    exact .inl ⟨⟨xs, q, Nat.le_refl _⟩, hd σ H p⟩
theorem for_range {lo : Int} {n : Nat} {g : TG} {tb : TS} {D : Ends} {σ : St} {H : Hp} (Pv : Nat → St → Hp → Prop) (h0 : Pv 0 σ H)
    (hs : ∀ i σ H, i < n → Pv i σ H → g (.int (lo + i)) σ H fun σ2 H2 => tb { D with nx := Pv (i + 1), ct := Pv (i + 1), bk := D.nx } σ2 H2) (hd : ∀ σ H, Pv n σ H → D.nx σ H) :
    ∃ W : Nat → Nat → St → Hp → Prop, (∃ m, W 0 m σ H) ∧ ∀ i m σ H, W i m σ H →
      ((Itr lo n).stop i H ∧ D.nx σ H) ∨ ((Itr lo n).go i H ∧ ∃ N : St → Hp → Prop, (∀ σ' H', N σ' H' → ∃ m', m' < m ∧ W (i + 1) m' σ' H') ∧ ∀ x H', (Itr lo n).yld i H x H' → g x σ H' fun σ2 H2 => tb { D with nx := N, ct := N, bk := D.nx } σ2 H2) := by
  refine ⟨fun i m σ H => m = n - i ∧ i ≤ n ∧ Pv i σ H, ⟨n, by simp, Nat.zero_le _, h0⟩, ?_⟩
  rintro i m σ H ⟨rfl, hi, p⟩
  by_cases hlt : i < n
  · refine .inr ⟨hlt, Pv (i + 1), fun σ' H' p' => ⟨n - (i + 1), by omega, rfl, hlt, p'⟩, fun x H' y => ?_⟩
    obtain ⟨e, y⟩ := y
    subst e y
    exact hs i σ _ hlt p
  · have e : i = n := by omega
    subst e
    exact .inl ⟨Nat.le_refl _, hd σ H p⟩
end L2
namespace L2
open PySem PySem.Spec PyProof.Rows
noncomputable abbrev R2 := V → V → Hp → VK → Prop
noncomputable def OpR (X : Cx) (f : Value → Value → Sem Value) (r : R2) : Prop :=
  ∀ (pins : List (Addr × Obj)) (s : Shared) (σ : St) (H : Hp) (x y : V) (v u : Value) (Q : VK), Inv X pins σ H s → RelV x v → RelV y u → r x y H Q →
    wpAny (model X.prog X.w) X.A (f v u) (EP X pins σ Q) X.xe s
noncomputable def UnR (X : Cx) (f : Value → Sem Value) (r : V → Hp → VK → Prop) : Prop :=
  ∀ (pins : List (Addr × Obj)) (s : Shared) (σ : St) (H : Hp) (x : V) (v : Value) (Q : VK), Inv X pins σ H s → RelV x v → r x H Q →
    wpAny (model X.prog X.w) X.A (f v) (EP X pins σ Q) X.xe s
noncomputable def CallR (X : Cx) (f : Value) (r : List V → Hp → VK → Prop) : Prop :=
  ∀ (pins : List (Addr × Obj)) (s : Shared) (σ : St) (H : Hp) (xs : List V) (us : List Value) (Q : VK), Inv X pins σ H s → Vals xs us → r xs H Q →
    wpAny (model X.prog X.w) X.A (call f us) (EP X pins σ Q) X.xe s
noncomputable def tOp (r : R2) (ta tb : TE) : TE := fun σ H Q => ta σ H fun x H1 => tb σ H1 fun y H2 => r x y H2 Q
noncomputable def tUn (r : V → Hp → VK → Prop) (ta : TE) : TE := fun σ H Q => ta σ H fun x H1 => r x H1 Q
noncomputable def rI (C : Int → Int → Prop) (g : Int → Int → V) : R2 := fun x y H Q => ∃ i j, x = .int i ∧ y = .int j ∧ C i j ∧ Q (g i j) H
noncomputable def rI0 (g : Int → Int → V) : R2 := fun x y H Q => ∃ i j, x = .int i ∧ y = .int j ∧ Q (g i j) H
noncomputable def rU (g : Int → V) : V → Hp → VK → Prop := fun x H Q => ∃ i, x = .int i ∧ Q (g i) H
section
variable {X : Cx} {a b c : Expr} {ta tb tc : TE} {pos : Pos}
theorem binT (ha : PE X a ta) (hb : PE X b tb) {pins : List (Addr × Obj)} {s : Shared} {σ : St} {H : Hp} {R : V → V → Hp → Prop} (I : Inv X pins σ H s)
    (h : ta σ H fun x H1 => tb σ H1 fun y H2 => R x y H2) {Q : Value → Shared → Prop} {f : Value → Value → Sem Value}
    (hf : ∀ v u s2 x y H2, Inv X pins σ H2 s2 → RelV x v → RelV y u → R x y H2 → wpAny (model X.prog X.w) X.A (f v u) Q X.xe s2) :
    wpAny (model X.prog X.w) X.A (eval a X.env) (fun v s₁ => wpAny (model X.prog X.w) X.A (eval b X.env) (fun u s₂ => wpAny (model X.prog X.w) X.A (f v u) Q X.xe s₂) X.xe s₁) X.xe s := by
  refine thn (ha pins s σ H _ I h) fun v s1 ⟨x, H1, I1, r1, q1⟩ => ?_
  refine thn (hb pins s1 σ H1 _ I1 q1) fun u s2 ⟨y, H2, I2, r2, q2⟩ => ?_
  exact hf v u s2 x y H2 I2 r1 r2 q2
theorem pe_op {op : Operator} {r : R2} (ho : OpR X (binaryOp op) r) (ha : PE X a ta) (hb : PE X b tb) : PE X (.BinOp a op b pos) (tOp r ta tb) := by
  intro pins s σ H Q I h
  exact wpAny_BinOp (binT ha hb I h fun v u s2 x y H2 I2 rx ry q => ho pins s2 σ H2 x y v u Q I2 rx ry q)
theorem pe_un {op : UnaryOp} {r : V → Hp → VK → Prop} (ho : UnR X (unaryOp op) r) (ha : PE X a ta) : PE X (.UnaryOp op a pos) (tUn r ta) := by
  intro pins s σ H Q I h
  exact UnaryOp_ (thn (ha pins s σ H _ I h) fun v s1 ⟨x, H1, I1, r1, q1⟩ => ho pins s1 σ H1 x v Q I1 r1 q1)
theorem opI {f : Value → Value → Sem Value} {C : Int → Int → Prop} {g : Int → Int → Int}
    (rule : ∀ (i j : Int) (t u : Tok) (s : Shared) (Q : Value → Shared → Prop) (E : Value → Shared → Prop), C i j → Q (.int (g i j) s.toks) { s with toks := s.toks + 1 } → wpAny (model X.prog X.w) X.A (f (.int i t) (.int j u)) Q E s) :
    OpR X f (rI C fun i j => .int (g i j)) := by
  intro pins s σ H x y v u Q I rx ry h
  obtain ⟨i, j, rfl, rfl, hc, q⟩ := h
  obtain ⟨t, rfl⟩ := rx
  obtain ⟨t', rfl⟩ := ry
  exact rule i j t t' s _ _ hc ⟨.int (g i j), H, I.tok _, ⟨_, rfl⟩, q⟩
theorem opI0 {f : Value → Value → Sem Value} {g : Int → Int → Int}
    (rule : ∀ (i j : Int) (t u : Tok) (s : Shared) (Q : Value → Shared → Prop) (E : Value → Shared → Prop), Q (.int (g i j) s.toks) { s with toks := s.toks + 1 } → wpAny (model X.prog X.w) X.A (f (.int i t) (.int j u)) Q E s) :
    OpR X f (rI0 fun i j => .int (g i j)) := by
  intro pins s σ H x y v u Q I rx ry h
  obtain ⟨i, j, rfl, rfl, q⟩ := h
  obtain ⟨t, rfl⟩ := rx
  obtain ⟨t', rfl⟩ := ry
  exact rule i j t t' s _ _ ⟨.int (g i j), H, I.tok _, ⟨_, rfl⟩, q⟩
theorem opB0 {f : Value → Value → Sem Value} {g : Int → Int → Bool}
    (rule : ∀ (i j : Int) (t u : Tok) (s : Shared) (Q : Value → Shared → Prop) (E : Value → Shared → Prop), Q (.bool (g i j)) s → wpAny (model X.prog X.w) X.A (f (.int i t) (.int j u)) Q E s) :
    OpR X f (rI0 fun i j => .bl (g i j)) := by
  intro pins s σ H x y v u Q I rx ry h
  obtain ⟨i, j, rfl, rfl, q⟩ := h
  obtain ⟨t, rfl⟩ := rx
  obtain ⟨t', rfl⟩ := ry
  exact rule i j t t' s _ _ ⟨.bl (g i j), H, I, rfl, q⟩
noncomputable def CDiv (i j : Int) : Prop := 0 < j ∧ j < 1073741824
noncomputable def CPow (i j : Int) : Prop := 0 ≤ j ∧ j ≤ 1000000 ∧ i.natAbs < 2 ^ 64
noncomputable def CMul (i j : Int) : Prop := (-(2 ^ 64) < i ∧ i < 2 ^ 64) ∨ (-(2 ^ 64) < j ∧ j < 2 ^ 64)
theorem CMul.ok {i j : Int} (h : CMul i j) : IntMulOk i j := by
  rcases h with ⟨h1, h2⟩ | ⟨h1, h2⟩
  · exact .of_left (intBits_le_64 h1 h2)
  · exact .of_right (intBits_le_64 h1 h2)
theorem op_add : OpR X (binaryOp .Add) (rI0 fun i j => .int (i + j)) := opI0 fun _ _ _ _ _ _ _ q => add_int q
theorem op_sub : OpR X (binaryOp .Sub) (rI0 fun i j => .int (i - j)) := opI0 fun _ _ _ _ _ _ _ q => sub_int q
theorem op_mul : OpR X (binaryOp .Mult) (rI CMul fun i j => .int (i * j)) := opI fun _ _ _ _ _ _ _ hc q => mul_int q hc.ok
theorem op_fdiv : OpR X (binaryOp .FloorDiv) (rI CDiv fun i j => .int (i / j)) := opI fun i j _ _ _ _ _ hc q => by
  have h1 : (0 : Int) < j := hc.1
  have h2 : j < 1073741824 := hc.2
  exact floordiv_int (by omega) (by rw [Int.fdiv_eq_ediv_of_nonneg i (by omega)]; exact q) (.inl (PyProof.noPylong_small (by omega)))
theorem op_mod : OpR X (binaryOp .Mod) (rI (fun _ j => 0 < j) fun i j => .int (i % j)) := opI fun i j _ _ _ _ _ hc q => by
  have h1 : (0 : Int) < j := hc
  exact mod_int' (by omega) (by rw [Int.fmod_eq_emod_of_nonneg i (by omega)]; exact q)
theorem op_pow : OpR X (binaryOp .Pow) (rI CPow fun i j => .int (i ^ j.toNat)) := opI fun _ _ _ _ _ _ _ hc q => pow_int_small hc.1 hc.2.1 hc.2.2 q
theorem unI {f : Value → Sem Value} {g : Int → Int}
    (rule : ∀ (i : Int) (t : Tok) (s : Shared) (Q : Value → Shared → Prop) (E : Value → Shared → Prop), Q (.int (g i) s.toks) { s with toks := s.toks + 1 } → wpAny (model X.prog X.w) X.A (f (.int i t)) Q E s) :
    UnR X f (rU fun i => .int (g i)) := by
  intro pins s σ H x v Q I rx h
  obtain ⟨i, rfl, q⟩ := h
  obtain ⟨t, rfl⟩ := rx
  exact rule i t s _ _ ⟨.int (g i), H, I.tok _, ⟨_, rfl⟩, q⟩
theorem un_neg : UnR X (unaryOp .USub) (rU fun i => .int (-i)) := unI fun _ _ _ _ _ q => neg_int q
end
noncomputable def scal : V → V → Bool
  | .non, .non => true | .non, .int _ => true | .int _, .non => true | .non, .bl _ => true | .bl _, .non => true | .non, .str _ => true | .str _, .non => true
  | .int _, .int _ => true | .bl _, .bl _ => true | .str _, .str _ => true | .byt _, .byt _ => true
  | .int _, .str _ => true | .str _, .int _ => true | .bl _, .str _ => true | .str _, .bl _ => true
  | _, _ => false
noncomputable def rEq : R2 := fun x y H Q => scal x y = true ∧ Q (.bl (decide (x = y))) H
noncomputable def rNe : R2 := fun x y H Q => scal x y = true ∧ Q (.bl (!decide (x = y))) H
theorem dec_int {i j : Int} : decide (V.int i = V.int j) = (i == j) := by
  rw [Bool.eq_iff_iff]
  simp
theorem dec_bl {i j : Bool} : decide (V.bl i = V.bl j) = (i == j) := by
  rw [Bool.eq_iff_iff]
  simp
theorem dec_str {i j : Str} : decide (V.str i = V.str j) = (i == j) := by
  rw [Bool.eq_iff_iff]
  simp
theorem dec_byt {i j : Array UInt8} : decide (V.byt i = V.byt j) = (i.toList == j.toList) := by
  rw [Bool.eq_iff_iff]
  cases i
  cases j
  simp
section
variable {X : Cx} {a b c : Expr} {ta tb tc : TE} {pos : Pos}
theorem fin_bl {pins : List (Addr × Obj)} {σ : St} {H : Hp} {s : Shared} {Q : VK} {k k' : Bool} (I : Inv X pins σ H s) (q : Q (.bl k) H) (e : k = k') : EP X pins σ Q (.bool k') s := by
  subst e
  exact ⟨.bl k, H, I, rfl, q⟩
theorem op_eq : OpR X (compareOp .Eq) rEq := by
  intro pins s σ H x y v u Q I rx ry h
  obtain ⟨hs, q⟩ := h
  cases x with
  | non =>
    cases rx
    cases y with
    | non => cases ry; exact PySem.EqNone.eq_none_none (fin_bl I q (by simp))
    | bl j => cases ry; exact PySem.EqNone.eq_none_bool (fin_bl I q (by simp))
    | int j => obtain ⟨t', rfl⟩ := ry; exact PySem.EqNone.eq_none_int (fin_bl I q (by simp))
    | str j => obtain ⟨t', rfl⟩ := ry; exact PySem.EqNone.eq_none_str (fin_bl I q (by simp))
    | _ => exact absurd (show false = true from hs) Bool.false_ne_true
  | bl i =>
    cases rx
    cases y with
    | non => cases ry; exact PySem.EqNone.eq_bool_none (fin_bl I q (by simp))
    | bl j => cases ry; exact eq_bool (fin_bl I q dec_bl)
    | str j => obtain ⟨t', rfl⟩ := ry; exact PySem.EqMixed.eq_bool_str (fin_bl I q (by simp))
    | _ => exact absurd (show false = true from hs) Bool.false_ne_true
  | int i =>
    obtain ⟨t, rfl⟩ := rx
    cases y with
    | non => cases ry; exact PySem.EqNone.eq_int_none (fin_bl I q (by simp))
    | int j => obtain ⟨t', rfl⟩ := ry; exact eq_int (fin_bl I q dec_int)
    | str j => obtain ⟨t', rfl⟩ := ry; exact PySem.EqMixed.eq_int_str (fin_bl I q (by simp))
    | _ => exact absurd (show false = true from hs) Bool.false_ne_true
  | str i =>
    obtain ⟨t, rfl⟩ := rx
    cases y with
    | non => cases ry; exact PySem.EqNone.eq_str_none (fin_bl I q (by simp))
    | bl j => cases ry; exact PySem.EqMixed.eq_str_bool (fin_bl I q (by simp))
    | int j => obtain ⟨t', rfl⟩ := ry; exact PySem.EqMixed.eq_str_int (fin_bl I q (by simp))
    | str j => obtain ⟨t', rfl⟩ := ry; exact eq_str (fin_bl I q dec_str)
    | _ => exact absurd (show false = true from hs) Bool.false_ne_true
  | byt i =>
    obtain ⟨t, rfl⟩ := rx
    cases y with
    | byt j => obtain ⟨t', rfl⟩ := ry; exact PySem.W.eq_bytes (fin_bl I q dec_byt)
    | _ => exact absurd (show false = true from hs) Bool.false_ne_true
  | _ => cases y <;> exact absurd (show false = true from hs) Bool.false_ne_true
theorem op_ne : OpR X (compareOp .NotEq) rNe := by
  intro pins s σ H x y v u Q I rx ry h
  obtain ⟨hs, q⟩ := h
  cases x with
  | non =>
    cases rx
    cases y with
    | non => cases ry; exact PySem.EqNone.ne_none_none (fin_bl I q (by simp))
    | bl j => cases ry; exact PySem.EqNone.ne_none_bool (fin_bl I q (by simp))
    | int j => obtain ⟨t', rfl⟩ := ry; exact PySem.EqNone.ne_none_int (fin_bl I q (by simp))
    | str j => obtain ⟨t', rfl⟩ := ry; exact PySem.EqNone.ne_none_str (fin_bl I q (by simp))
    | _ => exact absurd (show false = true from hs) Bool.false_ne_true
  | bl i =>
    cases rx
    cases y with
    | non => cases ry; exact PySem.EqNone.ne_bool_none (fin_bl I q (by simp))
    | bl j => cases ry; exact ne_bool (fin_bl I q (congrArg not dec_bl))
    | str j => obtain ⟨t', rfl⟩ := ry; exact PySem.EqMixed.ne_bool_str (fin_bl I q (by simp))
    | _ => exact absurd (show false = true from hs) Bool.false_ne_true
  | int i =>
    obtain ⟨t, rfl⟩ := rx
    cases y with
    | non => cases ry; exact PySem.EqNone.ne_int_none (fin_bl I q (by simp))
    | int j => obtain ⟨t', rfl⟩ := ry; exact ne_int (fin_bl I q (congrArg not dec_int))
    | str j => obtain ⟨t', rfl⟩ := ry; exact PySem.EqMixed.ne_int_str (fin_bl I q (by simp))
    | _ => exact absurd (show false = true from hs) Bool.false_ne_true
  | str i =>
    obtain ⟨t, rfl⟩ := rx
    cases y with
    | non => cases ry; exact PySem.EqNone.ne_str_none (fin_bl I q (by simp))
    | bl j => cases ry; exact PySem.EqMixed.ne_str_bool (fin_bl I q (by simp))
    | int j => obtain ⟨t', rfl⟩ := ry; exact PySem.EqMixed.ne_str_int (fin_bl I q (by simp))
    | str j => obtain ⟨t', rfl⟩ := ry; exact ne_str (fin_bl I q (congrArg not dec_str))
    | _ => exact absurd (show false = true from hs) Bool.false_ne_true
  | byt i =>
    obtain ⟨t, rfl⟩ := rx
    cases y with
    | byt j => obtain ⟨t', rfl⟩ := ry; exact PySem.W.ne_bytes (fin_bl I q (congrArg not dec_byt))
    | _ => exact absurd (show false = true from hs) Bool.false_ne_true
  | _ => cases y <;> exact absurd (show false = true from hs) Bool.false_ne_true
theorem op_lt : OpR X (compareOp .Lt) (rI0 fun i j => .bl (decide (i < j))) := opB0 fun _ _ _ _ _ _ _ q => lt_int q
theorem op_le : OpR X (compareOp .LtE) (rI0 fun i j => .bl (decide (i ≤ j))) := opB0 fun _ _ _ _ _ _ _ q => le_int q
theorem op_gt : OpR X (compareOp .Gt) (rI0 fun i j => .bl (decide (j < i))) := opB0 fun _ _ _ _ _ _ _ q => gt_int q
theorem op_ge : OpR X (compareOp .GtE) (rI0 fun i j => .bl (decide (j ≤ i))) := opB0 fun _ _ _ _ _ _ _ q => ge_int q
theorem op_in_str : OpR X (compareOp .In) (fun x y H Q => ∃ i j, x = .str i ∧ y = .str j ∧ Q (.bl (!(Builtin.Str.occurrences j i 0 j.length 1).isEmpty)) H) := by
  intro pins s σ H x y v u Q I rx ry h
  obtain ⟨i, j, rfl, rfl, q⟩ := h
  obtain ⟨t, rfl⟩ := rx
  obtain ⟨t', rfl⟩ := ry
  exact in_str (fin_bl I q rfl)
theorem op_isN : OpR X (compareOp .Is) (fun x y H Q => y = .non ∧ Q (.bl (decide (x = .non))) H) := by
  intro pins s σ H x y v u Q I rx ry h
  obtain ⟨rfl, q⟩ := h
  cases ry
  refine is_none_gen (fin_bl I q ?_)
  cases x <;> first
    | (cases rx; rfl)
    | (obtain ⟨t, rfl⟩ := rx; rfl)
theorem nomark (b : Expr) {op : CmpOp} (h : op ≠ .In := by decide) (h2 : op ≠ .NotIn := by decide) : behindInMarks op b = false := by
  have e1 : (op == CmpOp.In) = false := by cases op <;> first | rfl | exact absurd rfl h
  have e2 : (op == CmpOp.NotIn) = false := by cases op <;> first | rfl | exact absurd rfl h2
  cases b <;> simp [behindInMarks, e1, e2]
theorem pe_cmpR {op : CmpOp} {r : R2} (ho : OpR X (compareOp op) r) (ha : PE X a ta) (hb : PE X b tb) (hm : behindInMarks op b = false) : PE X (.Compare a [op] [b] pos) (tOp r ta tb) := by
  intro pins s σ H Q I h
  exact wpAny_Compare1 (binT ha hb I h fun v u s2 x y H2 I2 rx ry q => ho pins s2 σ H2 x y v u Q I2 rx ry q) hm
noncomputable def tTest (t : TE) : TT := fun σ H Q => t σ H fun x H' => ∃ k, x = .bl k ∧ Q k H'
theorem pt_cmpR {op : CmpOp} {r : R2} (ho : OpR X (compareOp op) r) (ha : PE X a ta) (hb : PE X b tb) (hm : behindInMarks op b = false) : PT X (.Compare a [op] [b] pos) (tTest (tOp r ta tb)) := by
  intro pins s σ H Q I h
  refine wpAny_isTrue_Compare1 (thn (ha pins s σ H _ I h) fun v s1 ⟨x, H1, I1, r1, q1⟩ => thn (hb pins s1 σ H1 _ I1 q1) fun u s2 ⟨y, H2, I2, r2, q2⟩ =>
    thn (ho pins s2 σ H2 x y v u _ I2 r1 r2 q2) fun c s3 ⟨z, H3, I3, r3, k, e, q3⟩ => ?_) hm
  subst e
  cases r3
  exact wpAny_truthy_bool ⟨H3, I3, q3⟩
noncomputable def tChain (r r' : R2) (ta tb tc : TE) : TE := fun σ H Q => ta σ H fun x H1 => tb σ H1 fun y H2 => r x y H2 fun z H3 => ∃ k, z = .bl k ∧
  (if k = true then tc σ H3 fun w' H4 => r' y w' H4 Q else Q (.bl false) H3)
theorem pe_chain {op op' : CmpOp} {r r' : R2} (ho : OpR X (compareOp op) r) (ho' : OpR X (compareOp op') r') (ha : PE X a ta) (hb : PE X b tb) (hc : PE X c tc)
    (hm : lastMarks [op, op'] [b, c] = false := by with_unfolding_all rfl) : PE X (.Compare a [op, op'] [b, c] pos) (tChain r r' ta tb tc) := by
  intro pins s σ H Q I h
  refine Compare_chain (thn (ha pins s σ H _ I h) fun v s1 ⟨x, H1, I1, r1, q1⟩ => chain_link (thn (hb pins s1 σ H1 _ I1 q1) fun u s2 ⟨y, H2, I2, r2, q2⟩ =>
    thn (ho pins s2 σ H2 x y v u _ I2 r1 r2 q2) fun d s3 ⟨z, H3, I3, r3, k, e, q3⟩ => ?_)) hm
  subst e
  cases r3
  refine wpAny_truthy_bool ?_
  cases k with
  | false => exact ite_ff ⟨.bl false, H3, I3, rfl, q3⟩
  | true => exact ite_tt (chain_last (thn (hc pins s3 σ H3 _ I3 q3) fun w' s4 ⟨z', H4, I4, r4, q4⟩ => ho' pins s4 σ H4 y z' u w' Q I4 r2 r4 q4))
theorem pt_chain {op op' : CmpOp} {r r' : R2} (ho : OpR X (compareOp op) r) (ho' : OpR X (compareOp op') r') (ha : PE X a ta) (hb : PE X b tb) (hc : PE X c tc)
    (hm : lastMarks [op, op'] [b, c] = false := by with_unfolding_all rfl) : PT X (.Compare a [op, op'] [b, c] pos) (tTest (tChain r r' ta tb tc)) := by
  intro pins s σ H Q I h
  refine isTrue_chain (thn (ha pins s σ H _ I h) fun v s1 ⟨x, H1, I1, r1, q1⟩ => test_link (thn (hb pins s1 σ H1 _ I1 q1) fun u s2 ⟨y, H2, I2, r2, q2⟩ =>
    thn (ho pins s2 σ H2 x y v u _ I2 r1 r2 q2) fun d s3 ⟨z, H3, I3, r3, k, e, q3⟩ => ?_)) hm
  subst e
  cases r3
  refine wpAny_truthy_bool ?_
  cases k with
  | false =>
    obtain ⟨k', e', q'⟩ := q3
    cases e'
    exact ite_ff ⟨H3, I3, q'⟩
  | true =>
    refine ite_tt (test_last (thn (hc pins s3 σ H3 _ I3 q3) fun w' s4 ⟨z', H4, I4, r4, q4⟩ => thn (ho' pins s4 σ H4 y z' u w' _ I4 r2 r4 q4) fun d' s5 ⟨z2, H5, I5, r5, k2, e2, q5⟩ => ?_))
    subst e2
    cases r5
    exact wpAny_truthy_bool ⟨H5, I5, q5⟩
theorem line63 : (sizeLine : Nat) < 2 ^ 63 := by rw [sizeLine_eq]; decide
theorem vals1 {x : V} {us : List Value} (r : Vals [x] us) : ∃ u, us = [u] ∧ RelV x u := by
  cases r with
  | cons r1 r2 => cases r2; exact ⟨_, rfl, r1⟩
theorem vals2 {x y : V} {us : List Value} (r : Vals [x, y] us) : ∃ u w', us = [u, w'] ∧ RelV x u ∧ RelV y w' := by
  cases r with
  | cons r1 r2 =>
    cases r2 with
    | cons r3 r4 => cases r4; exact ⟨_, _, rfl, r1, r3⟩
theorem call_int1 : CallR X (.type "int") (fun xs H Q => (∃ i, xs = [.int i] ∧ Q (.int i) H) ∨ ∃ k, xs = [.bl k] ∧ Q (.int (if k then 1 else 0)) H) := by
  intro pins s σ H xs us Q I r h
  rcases h with ⟨i, rfl, q⟩ | ⟨k, rfl, q⟩
  · obtain ⟨u, rfl, t, rfl⟩ := vals1 r
    exact call_int_int ⟨.int i, H, I, ⟨_, rfl⟩, q⟩
  · obtain ⟨u, rfl, r1⟩ := vals1 r
    cases r1
    exact call_int_bool ⟨.int (if k then 1 else 0), H, I.tok _, ⟨_, rfl⟩, q⟩
theorem call_str_int : CallR X (.type "str") (fun xs H Q => ∃ i, xs = [.int i] ∧ i.natAbs.log2 < 1920 ∧ Q (.str (toString i)) H) := by
  intro pins s σ H xs us Q I r h
  obtain ⟨i, rfl, hz, q⟩ := h
  obtain ⟨u, rfl, t, rfl⟩ := vals1 r
  exact PySem.P.str_of_int hz ⟨.str _, H, I.tok _, ⟨_, rfl⟩, q⟩
end
end L2
namespace L2
open PySem PySem.Spec PyProof.Rows
structure ObjM (h : Heap) (x dx C : Addr) (mA : Str → Option Value) : Prop where
  obj : h.get? x = some (PySem.W.instObj C dx)
  ns : h.Ns1 dx mA
  ne : dx ≠ x
theorem lookIn_ns {h : Heap} {dx : Addr} {mA : Str → Option Value} (n : h.Ns1 dx mA) : ∃ od, h.get? dx = some od ∧ ∀ name, PySem.W.lookIn name od = some (mA name) := by
  obtain ⟨o, es, ep, ho, hd, hk, _, hm⟩ := n
  refine ⟨o, ho, fun name => ?_⟩
  have e := hm name
  unfold nsFind findBy at e
  rw [← Array.find?_toList] at e
  unfold PySem.W.lookIn
  rw [hd]
  dsimp only
  split
  · rename_i y q
    rw [q] at e
    exact congrArg some e
  · rename_i q
    rw [q] at e
    have a : es.toList.any (·.refKey) = false := by
      rw [List.any_eq_false]
      intro y hy
      obtain ⟨z, t, hkey⟩ := hk y (Array.mem_toList_iff.mp hy)
      simp [DictEntry.refKey, hkey]
    have a' : ¬ es.toList.any (·.refKey) = true := by rw [a]; exact Bool.false_ne_true
    rw [if_neg a']
    exact congrArg some e
theorem ObjM.look {h : Heap} {x dx C : Addr} {mA : Str → Option Value} (I : ObjM h x dx C mA) : ∃ od, PySem.W.InstAt h x (PySem.W.instObj C dx) C (some od) ∧ ∀ name, PySem.W.lookIn name od = some (mA name) :=
  let ⟨od, ho, hl⟩ := lookIn_ns I.ns
  ⟨od, ⟨I.obj, rfl, rfl, ho⟩, hl⟩
section
variable {prog : Program} {w : World} {A : Around} {E : Value → Shared → Prop} {s : Shared} {K : PySem.W.Frag} {x dx C f : Addr} {mA : Str → Option Value} {name : Str} {v : Value}
end
section
variable {P : Program} {w : World} {H H' : Hp} {h h' : Heap} {a C dx : Addr} {fs fs' : List (Str × V)}
theorem ins_get (hok : HOk P w H h) (e : H a = some (.ins C dx fs)) : ∃ mA, ObjM h a dx C mA ∧ (∀ f, RelO (fs.lookup f) (mA f)) ∧ PySem.Within mA (fs.map (·.1)) ∧ fs.length ≤ 1000 ∧ H dx = some (.own a) := by
  obtain ⟨d, z, ne, ob, mA, n, r, q⟩ := (show ObjOk P w H h a (.ins C dx fs) from hok a _ e)
  exact ⟨mA, ⟨ob, n, ne⟩, r, q, z, d⟩
end
structure Cls (K : PySem.W.Frag) (C : Addr) : Prop where
  pg : PySem.W.plainGet K C Str.empty = true
  hd : PySem.W.hasDictIn K C = true
  po : PySem.W.plainOver K C = true
  sa : PySem.W.findIn K (.ref C) "__setattr__" = some (some (.builtin "object.__setattr__"))
theorem Cls.get {K : PySem.W.Frag} {C : Addr} (c : Cls K C) (f : Str) : PySem.W.plainGet K C f = true := c.pg
section
variable {X : Cx} {pins : List (Addr × Obj)} {σ : St} {H : Hp} {s : Shared} {a C dx : Addr} {fs : List (Str × V)} {f : Str} {v : V} {A : Around} {E : Value → Shared → Prop}
end
section
variable {X : Cx} {o e value : Expr} {f : Str} {pos pos' tpos : Pos} {ta tv : TE}
end
section
variable {X : Cx} {pins : List (Addr × Obj)} {σ : St} {H : Hp} {s : Shared} {A : Around} {E : Value → Shared → Prop} {Q : Value → Shared → Prop} {c : Value} {b : Bool}
inductive TyOf (K : PySem.W.Frag) (H : Hp) : V → Value → Prop where
  | non : TyOf K H .non (.type "NoneType")
  | bl (x : Bool) : TyOf K H (.bl x) (.type "bool")
  | int (i : Int) : TyOf K H (.int i) (.type "int")
  | str (x : Str) : TyOf K H (.str x) (.type "str")
  | flt (x : UInt64) : TyOf K H (.flt x) (.type "float")
  | lst {a : Addr} {xs : List V} (e : H a = some (.lst xs)) : TyOf K H (.ref a) (.type "list")
  | frz {a : Addr} {o : Obj} {xs : List V} (e : H a = some (.frz o (.lst xs))) : TyOf K H (.ref a) (.type "list")
  | tup {a : Addr} {xs : List V} (e : H a = some (.tup xs)) : TyOf K H (.ref a) (.type "tuple")
  | dK {a : Addr} {kvs : List (Key × V)} (e : H a = some (.dK kvs)) : TyOf K H (.ref a) (.type "dict")
  | dT {a : Addr} {kvs : List (List Key × V)} (e : H a = some (.dT kvs)) : TyOf K H (.ref a) (.type "dict")
  | ins {a C dx : Addr} {fs : List (Str × V)} (e : H a = some (.ins C dx fs)) (cl : Cls K C) (ha : PySem.W.findIn K (.ref C) "__class__" = some (some (.builtin "object.__class__")))
      (hn : PySem.W.specialIn K (.builtin "object.__class__") "__get__" = some (some (.builtin "getset_descriptor.__get__"))) (htk : PySem.W.takesIn K (.builtin "object.__class__") = some true)
      (hm : PySem.W.mroIn K C (.type "object") = some true) : TyOf K H (.ref a) (.ref C)
theorem isinst_ok {x : V} {u t : Value} (I : Inv X pins σ H s) (rx : RelV x u) (ty : TyOf X.K H x t) (e : PySem.W.kitOne X.K t c = some b) (h : ∀ tk, Q (.bool b) { s with toks := tk }) :
    wpAny (model X.prog X.w) A (call (.builtin "isinstance") [u, c]) Q E s := by
  cases ty with
  | non => cases (show u = Value.none from rx); exact PySem.W.kia_one PySem.W.kitx_none I.kIn True.intro e (fun z => nomatch z) h
  | bl y => cases (show u = Value.bool y from rx); exact PySem.W.kia_one PySem.W.kitx_bool I.kIn True.intro e (fun z => nomatch z) h
  | int i => obtain ⟨t, q⟩ := (show ∃ t, u = Value.int i t from rx); cases q; exact PySem.W.kia_one PySem.W.kitx_int I.kIn True.intro e (fun z => nomatch z) h
  | str y => obtain ⟨t, q⟩ := (show ∃ t, u = Value.str y t from rx); cases q; exact PySem.W.kia_one PySem.W.kitx_str I.kIn True.intro e (fun z => nomatch z) h
  | flt y => obtain ⟨t, q⟩ := (show ∃ t, u = Value.float y t from rx); cases q; exact PySem.W.kia_one PySem.W.kitx_float I.kIn True.intro e (fun z => nomatch z) h
  | @lst a xs ea =>
    cases (show u = Value.ref a from rx)
    obtain ⟨_, _, n, _, h1⟩ := (show ObjOk X.prog X.w H s.heap a (.lst xs) from I.hok a _ ea)
    exact PySem.W.kia_one PySem.W.kitx_list I.kIn ⟨_, h1, rfl⟩ e (fun z => nomatch z) h
  | @frz a ob xs ea =>
    cases (show u = Value.ref a from rx)
    obtain ⟨_, _, _, n, _, h1⟩ := (show ObjOk X.prog X.w H s.heap a (.frz ob (.lst xs)) from I.hok a _ ea)
    exact PySem.W.kia_one PySem.W.kitx_list I.kIn ⟨_, h1, rfl⟩ e (fun z => nomatch z) h
  | @tup a xs ea =>
    cases (show u = Value.ref a from rx)
    obtain ⟨_, _, _, p⟩ := (show ObjOk X.prog X.w H s.heap a (.tup xs) from I.hok a _ ea)
    obtain ⟨o, h1, h2, _⟩ := p
    exact PySem.W.kia_one PySem.W.kitx_tuple I.kIn ⟨o, h1, h2⟩ e (fun z => nomatch z) h
  | @dK a kvs ea =>
    cases (show u = Value.ref a from rx)
    obtain ⟨_, _, vs, _, p⟩ := (show ObjOk X.prog X.w H s.heap a (.dK kvs) from I.hok a _ ea)
    obtain ⟨o, es, ep, h1, h2, _⟩ := p
    exact PySem.W.kia_one PySem.W.kitx_dict I.kIn ⟨o, h1, h2.1⟩ e (fun z => nomatch z) h
  | @dT a kvs ea =>
    cases (show u = Value.ref a from rx)
    obtain ⟨_, _, xs, _, o, es, ep, h1, h2, _⟩ := (show ObjOk X.prog X.w H s.heap a (.dT kvs) from I.hok a _ ea)
    exact PySem.W.kia_one PySem.W.kitx_dict I.kIn ⟨o, h1, h2.1⟩ e (fun z => nomatch z) h
  | @ins a C dx fs ea cl ha hn htk hm =>
    cases (show u = Value.ref a from rx)
    obtain ⟨mA, O, _⟩ := ins_get I.hok ea
    obtain ⟨od, J, _⟩ := O.look
    exact PySem.W.kia_one (PySem.W.kitx_own (cl.get _) cl.hd ha hn htk hm) I.kIn J e (fun z => nomatch z) h
end
end L2
namespace L2
open PySem PySem.Spec PyProof.Rows
structure Room (k : Nat) (A : Around) : Prop where
  hd : A.handled = none
  dp : A.depth + 3 * k + 5 < recursionLimit
  un : A.units + 16 * k + 200 < cLine
  gd : A.guards = some []
theorem Room.mono {j k : Nat} {A : Around} (r : Room k A) (h : j ≤ k) : Room j A := ⟨r.hd, by have := r.dp; omega, by have := r.un; omega, r.gd⟩
theorem Room.deeper {k : Nat} {A : Around} (r : Room (k + 1) A) (env : Env) : Room k (A.deeper env) :=
  ⟨r.hd, by have := r.dp; show A.depth + 1 + 3 * k + 5 < _; omega, by have := r.un; show A.units + 3 + 16 * k + 200 < _; omega, r.gd⟩
theorem Room.depth {k : Nat} {A : Around} (r : Room k A) : A.depth < recursionLimit := by have := r.dp; omega
theorem Room.units {k : Nat} {A : Around} (r : Room k A) : A.units + 64 < cLine := by have := r.un; omega
noncomputable def tNil : TA := fun _ H Q => Q [] H
noncomputable def tCons (ta : TE) (tr : TA) : TA := fun σ H Q => ta σ H fun x H1 => tr σ H1 fun xs H2 => Q (x :: xs) H2
section
variable {X : Cx} {e : Expr} {es : List Expr} {te : TE} {t : TA} {pos : Pos}
theorem pa_nil : PA X [] tNil := fun _ _ _ _ H Q I h => Calls.spliced_nil ⟨[], H, I, .nil, h⟩
theorem pa_cons (ha : PE X e te) (hr : PA X es t) (hs : starEach (e :: es) X.env = (false, eval e X.env) :: starEach es X.env := by rfl) : PA X (e :: es) (tCons te t) := by
  intro pos pins s σ H Q I h
  rw [hs]
  show wpAny _ _ (spliced ((false, eval e X.env) :: backTo pos (starEach es X.env))) _ _ s
  refine Calls.spliced_cons (thn (ha pins s σ H _ I h) fun u s1 ⟨x, H1, I1, r1, q1⟩ => ?_)
  exact thn (hr pos pins s1 σ H1 _ I1 q1) fun us s2 ⟨xs, H2, I2, r2, q2⟩ => ⟨x :: xs, H2, I2, .cons r1 r2, q2⟩
noncomputable def tTup (t : TA) : TE := fun σ H Q => t σ H fun xs H1 => xs.length ≤ sizeLine ∧ ∀ p, H1 p = none → Q (.ref p) (upd H1 p (.tup xs))
noncomputable def tLst (t : TA) : TE := fun σ H Q => t σ H fun xs H1 => xs.length ≤ sizeLine ∧ ∀ p, H1 p = none → Q (.ref p) (upd H1 p (.lst xs))
theorem pe_tup {x1} (h : PA X es t) : PE X (.Tuple es x1 pos) (tTup t) := by
  intro pins s σ H Q I hq
  refine wpAny_Tuple_spliced (thn (h pos pins s σ H _ I hq) fun us s1 ⟨xs, H1, I1, r, z, q⟩ => ⟨by rw [← r.length]; exact z, ?_⟩)
  have hf : H1 s1.heap.objs.size = none := I1.hok.fresh (Nat.le_refl _)
  refine ⟨.ref s1.heap.objs.size, upd H1 s1.heap.objs.size (.tup xs), I1.laid (t' := s1.toks) (fun b u e => Heap.get?_push_of_some _ e) (Nat.le_refl _) ?_, rfl, q _ hf⟩
  exact ⟨z, us, r, ⟨_, Heap.get?_push_size _ rfl, rfl, _, rfl⟩⟩
theorem pe_lst (h : PA X es t) : PE X (.List es pos) (tLst t) := by
  intro pins s σ H Q I hq
  refine wpAny_List_spliced (thn (h pos pins s σ H _ I hq) fun us s1 ⟨xs, H1, I1, r, z, q⟩ => ⟨by rw [← r.length]; exact z, ?_⟩)
  have hf : H1 s1.heap.objs.size = none := I1.hok.fresh (Nat.le_refl _)
  refine ⟨.ref s1.heap.objs.size, upd H1 s1.heap.objs.size (.lst xs), I1.laid (t' := s1.toks) (fun b u e => Heap.get?_push_of_some _ e) (Nat.le_refl _) ?_, rfl, q _ hf⟩
  exact ⟨z, us, 0, r, Heap.get?_push_size _ rfl⟩
end
noncomputable abbrev Sp := List V → Hp → VK → XK → Prop
noncomputable abbrev CXT := List Env → Hp → Shared → XK → Value → Shared → Prop
structure Env0 (P : Program) (w : World) (K : PySem.W.Frag) (mg : Str → Option Value) (base : Heap) (A : Around) (outer : List Env) (s : Shared) (H : Hp) : Prop where
  frames : A.frames = some outer
  mod : Mod K mg base
  bs : ∀ b o, base.get? b = some o → s.heap.get? b = some o ∧ H b = none
  bsz : base.objs.size ≤ s.heap.objs.size
  funs : s.heap.FunFrames base outer
  frf : ∀ b ∈ frs outer, H b = none
  hok : HOk P w H s.heap
  bare : AllBare s.gens
noncomputable def CE (outer : List Env) (P : Program) (w : World) (H : Hp) (s : Shared) (Q : VK) (u : Value) (s' : Shared) : Prop :=
  ∃ v H', s'.os = s.os ∧ AllBare s'.gens ∧ Un (frs outer) [] H H' s.heap s'.heap ∧ HOk P w H' s'.heap ∧ RelV v u ∧ Q v H'
noncomputable def CR (CX : CXT) (outer : List Env) (P : Program) (w : World) (H : Hp) (s : Shared) (Q : VK) (E : XK) (r : Result) (s' : Shared) : Prop :=
  match r with
  | .ok (.ret u) => CE outer P w H s Q u s'
  | .ok _ => False
  | .error e => CX outer H s E e s'
structure FnOk (P : Program) (w : World) (K : PySem.W.Frag) (mg : Str → Option Value) (base : Heap) (CX : CXT) (k : Nat) (f : Addr) (fd : FuncData) (ps : List Str) (sp : Sp) : Prop where
  len : ∀ vs H Q E, sp vs H Q E → vs.length = ps.length
  run : ∀ (A : Around) (outer : List Env) (s : Shared) (H : Hp) (args : Args) (us : List Value) (vs : List V) (Q : VK) (E : XK), Room k A → Env0 P w K mg base A outer s H → BindsTo s fd args (ps.zip us) → Vals vs us → sp vs H Q E →
    codeAny (model P w) A (.call (.ref f) args) (CR CX outer P w H s Q E) s
theorem FnOk.imp {P : Program} {w : World} {K : PySem.W.Frag} {mg : Str → Option Value} {base : Heap} {CX : CXT} {k : Nat} {f : Addr} {fd : FuncData} {ps : List Str} {sp sp' : Sp} (F : FnOk P w K mg base CX k f fd ps sp)
    (h : ∀ vs H Q E, sp' vs H Q E → sp vs H Q E) : FnOk P w K mg base CX k f fd ps sp' :=
  ⟨fun vs H Q E q => F.len vs H Q E (h _ _ _ _ q), fun A outer s H args us vs Q E hr he hb hv hs => F.run A outer s H args us vs Q E hr he hb hv (h _ _ _ _ hs)⟩
section
variable {X : Cx} {pins : List (Addr × Obj)} {σ : St} {H : Hp} {s s' : Shared}
theorem Inv.env0 (I : Inv X pins σ H s) : Env0 X.prog X.w X.K X.mg X.base X.A X.stack s H :=
  ⟨I.ok.frames, I.ok.mod, I.bs, Nat.le_trans I.ok.bsz I.sz, I.stack, I.stkFree, I.hok, I.bare⟩
theorem Inv.after {Q : VK} {u : Value} (I : Inv X pins σ H s) (h : CE X.stack X.prog X.w H s Q u s') : EP X pins σ Q u s' := by
  obtain ⟨v, H', os, bare, un, hok, r, q⟩ := h
  obtain ⟨hh, g, d, t, os'⟩ := s'
  obtain rfl : os' = s.os := os
  exact ⟨v, H', I.call (h' := hh) (g' := g) (d' := d) (t' := t) (ch := []) un hok bare (fun b z => absurd z (by simp)), r, q⟩
end
noncomputable def tCall (sp : Sp) (dvs : List V) (E : XK) (t : TA) : TE := fun σ H Q => t σ H fun vs H1 => sp (vs ++ dvs) H1 Q E
noncomputable def Binds (K : PySem.W.Frag) (fd : FuncData) (ps : List Str) (ds : List Value) : Prop :=
  ∀ (s : Shared) (us : List Value), K.In s.heap → (us ++ ds).length = ps.length → BindsTo s fd ⟨us, []⟩ (ps.zip (us ++ ds))
theorem Binds.all {K : PySem.W.Frag} {fd : FuncData} {ps : List Str} (h : ∀ us : List Value, us.length = ps.length → bindArgs fd ⟨us, []⟩ = pure (ps.zip us)) : Binds K fd ps [] := fun s us _ hl => by
  rw [List.append_nil] at hl ⊢
  exact .of_eq (h us hl)
noncomputable def Passes (CX : CXT) (X : Cx) (E : XK) : Prop := ∀ (pins : List (Addr × Obj)) (σ : St) (H : Hp) (s : Shared) (e : Value) (s' : Shared), Inv X pins σ H s → CX X.stack H s E e s' → X.xe e s'
section
variable {X : Cx} {CX : CXT} {k : Nat} {f C : Addr} {fd : FuncData} {ps : List Str} {sp : Sp} {dvs : List V} {ds : List Value} {E : XK} {x m : Str} {p pos apos : Pos} {e o : Expr} {es : List Expr} {ta : TE} {t : TA}
theorem run_fn {pins : List (Addr × Obj)} {σ : St} {H : Hp} {s : Shared} {Q : VK} {us : List Value} {vs : List V} (F : FnOk X.prog X.w X.K X.mg X.base CX k f fd ps sp) (hr : Room k X.A) (hb : Binds X.K fd ps ds) (hd : Vals dvs ds) (hx : Passes CX X E)
    (I : Inv X pins σ H s) (r : Vals vs us) (h : sp (vs ++ dvs) H Q E) : wpAny (model X.prog X.w) X.A (call (.ref f) us) (EP X pins σ Q) X.xe s := by
  have r2 : Vals (vs ++ dvs) (us ++ ds) := r.append hd
  have hl : (us ++ ds).length = ps.length := by rw [← r2.length]; exact F.len _ _ _ _ h
  refine wpAny_call (codeAny_mono (F.run X.A X.stack s H ⟨us, []⟩ (us ++ ds) (vs ++ dvs) Q E hr I.env0 (hb s us I.kIn hl) r2 h) fun r s' hq => ?_)
  cases r with
  | error e => exact hx pins σ H s e s' I hq
  | ok fl =>
    cases fl with
    | ret u => exact I.after hq
    | next => exact False.elim hq
    | brk => exact False.elim hq
    | cont => exact False.elim hq
theorem pe_call (F : FnOk X.prog X.w X.K X.mg X.base CX k f fd ps sp) (hr : Room k X.A) (hg : Gl X x) (hm : X.mg x = some (.ref f)) (hk : PySem.W.keepIn X.K (.ref f) = true) (hb : Binds X.K fd ps ds) (hd : Vals dvs ds) (hx : Passes CX X E)
    (ha : PA X (e :: es) t) (hdb : (x == ("__debug__" : Str)) = false := by decide) (he : starEach (e :: es) X.env = (false, eval e X.env) :: starEach es X.env := by rfl) (hpl : (backTo pos (starEach es X.env)).any (·.1) = false := by rfl) :
    PE X (.Call (.Name x p) (e :: es) [] pos) (tCall sp dvs E t) := by
  intro pins s σ H Q I h
  refine wpAny_Call_Name_kw (ld_glob I hg hm ?_ hdb)
  refine PySem.W.callWith_K (h₀ := X.base) I.ok.mod.kin hk (thn (ha pos pins s σ H _ I h) fun us s1 ⟨vs, H1, I1, r, q⟩ => ⟨I1.kIn, ?_⟩) he hpl
  exact run_fn F hr hb hd hx I1 r q
end
section
variable {X : Cx} {CX : CXT} {k : Nat} {f C : Addr} {fd : FuncData} {ps ks : List Str} {sp : Sp} {E : XK} {x m : Str} {p pos apos kpos : Pos} {e o : Expr} {es : List Expr} {kws : List Keyword} {te ta : TE} {t tk : TA} {nm : Option Str}
variable {g : List Value → List Value → List Value} {gV : List V → List V → List V}
end
structure FnScope (N P : List Str) (sc : Scope) : Prop where
  kind : sc.kind = .function
  co : sc.isCoroutine = false
  gen : sc.isGenerator = false
  nd : N.Nodup
  pre : N.take P.length = P
  par : ∀ x ∈ P, sc.names.lookup x = some .local ∨ sc.names.lookup x = some .cell
  nofree : ∀ y ∈ sc.names, y.2 ≠ .free
theorem bindL_out {kindOf : Str → Option NameKind} {x : Str} : ∀ {binds : List (Str × Value)} {m : Str → Option Value}, (∀ v, (x, v) ∉ binds) → bindL kindOf binds m x = m x
  | [], _, _ => rfl
  | (n, v) :: r, m, h => by
    unfold bindL
    rw [bindL_out fun w hw => h w (List.mem_cons_of_mem _ hw)]
    split
    · have : x ≠ n := by rintro rfl; exact h v List.mem_cons_self
      simp [this]
    · rfl
theorem bindC_out {kindOf : Str → Option NameKind} {x : Str} : ∀ {binds : List (Str × Value)} {m : Str → Option Value}, (∀ v, (x, v) ∉ binds) → bindC kindOf binds m x = m x
  | [], _, _ => rfl
  | (n, v) :: r, m, h => by
    unfold bindC
    rw [bindC_out fun w hw => h w (List.mem_cons_of_mem _ hw)]
    split
    · rfl
    · have : x ≠ n := by rintro rfl; exact h v List.mem_cons_self
      simp [this]
theorem bindL_get {kindOf : Str → Option NameKind} {x : Str} {v : Value} : ∀ {P : List Str} {vs : List Value} {i : Nat} {m : Str → Option Value}, P.Nodup → P[i]? = some x → vs[i]? = some v → kindOf x = some .local →
    bindL kindOf (P.zip vs) m x = some v
  | [], _, _, _, _, h, _, _ => by simp at h
  | _ :: _, [], _, _, _, _, h, _ => by simp at h
  | p :: P, w :: vs, 0, m, nd, h1, h2, hk => by
    simp at h1 h2; subst h1; subst h2
    show bindL kindOf ((p, w) :: P.zip vs) m p = _
    unfold bindL
    rw [bindL_out fun v hv => (List.nodup_cons.mp nd).1 (List.of_mem_zip hv).1, if_pos hk]
    simp
  | p :: P, w :: vs, i + 1, m, nd, h1, h2, hk => by
    show bindL kindOf ((p, w) :: P.zip vs) m x = _
    unfold bindL
    exact bindL_get (i := i) (List.nodup_cons.mp nd).2 (by simpa using h1) (by simpa using h2) hk
theorem bindC_get {kindOf : Str → Option NameKind} {x : Str} {v : Value} : ∀ {P : List Str} {vs : List Value} {i : Nat} {m : Str → Option Value}, P.Nodup → P[i]? = some x → vs[i]? = some v → kindOf x ≠ some .local →
    bindC kindOf (P.zip vs) m x = some v
  | [], _, _, _, _, h, _, _ => by simp at h
  | _ :: _, [], _, _, _, _, h, _ => by simp at h
  | p :: P, w :: vs, 0, m, nd, h1, h2, hk => by
    simp at h1 h2; subst h1; subst h2
    show bindC kindOf ((p, w) :: P.zip vs) m p = _
    unfold bindC
    rw [bindC_out fun v hv => (List.nodup_cons.mp nd).1 (List.of_mem_zip hv).1, if_neg hk]
    simp
  | p :: P, w :: vs, i + 1, m, nd, h1, h2, hk => by
    show bindC kindOf ((p, w) :: P.zip vs) m x = _
    unfold bindC
    exact bindC_get (i := i) (List.nodup_cons.mp nd).2 (by simpa using h1) (by simpa using h2) hk
noncomputable def start (N : List Str) (vs : List V) : St := vs.map some ++ List.replicate (N.length - vs.length) none
noncomputable def cxOf (CX : CXT) (P : Program) (w : World) (K : PySem.W.Frag) (mg : Str → Option Value) (base : Heap) (N : List Str) (qual : Str) (scope : Scope) (f : Addr) (cd : Value) (A : Around) (outer : List Env) (s : Shared) (H : Hp) (E : XK) : Cx where
  prog := P
  w := w
  K := K
  mg := mg
  base := base
  A := A.deeper (envOfC qual scope s.heap.objs.size f cd)
  N := N
  s₀ := s
  H₀ := H
  env := envOfC qual scope s.heap.objs.size f cd
  outer := outer
  stack := envOfC qual scope s.heap.objs.size f cd :: outer
  ex := []
  calm := true
  fn := fun _ => true
  pn := []
  xe := fun e s' => wpAny (model P w) (A.deeper (envOfC qual scope s.heap.objs.size f cd)) (leaving (envOfC qual scope s.heap.objs.size f cd) e) (fun _ s'' => CX outer H s E e s'') (fun e' s'' => CX outer H s E e' s'') s'
theorem cell_has {sc : Scope} {n : Nat} {x : Str} (h : sc.names.lookup x = some .cell) : ∃ c, (cellsFrom n sc.names []).lookup x = some c := by
  have q := PySem.W.cellsFrom_some sc.names n [] (.inl h)
  exact Option.isSome_iff_exists.mp q
theorem inv_start {CX : CXT} {P : Program} {w : World} {K : PySem.W.Frag} {mg : Str → Option Value} {base : Heap} {N ps : List Str} {qual : Str} {scope : Scope} {f : Addr} {cd : Value} {A : Around} {outer : List Env} {s s1 : Shared} {H : Hp} {E : XK} {us : List Value} {vs : List V}
    (S : FnScope N ps scope) (hd : A.handled = none) (e0 : Env0 P w K mg base A outer s H) (hl : vs.length = ps.length) (r : Vals vs us)
    (x : InCallC s s.heap.objs.size (bindL (envOfC qual scope s.heap.objs.size f cd).kindOf (ps.zip us) fun _ => none) (cellsFrom (s.heap.objs.size + 1) scope.names []) (bindC (envOfC qual scope s.heap.objs.size f cd).kindOf (ps.zip us) fun _ => none) s1) :
    Inv (cxOf CX P w K mg base N qual scope f cd A outer s H E) [] (start N vs) H s1 := by
  have hpl : ps.length ≤ N.length := by have := congrArg List.length S.pre; rw [List.length_take] at this; omega
  obtain ⟨h1, tk, rfl, hk⟩ := x.done
  have noA : ∀ b : Addr, b ∉ (cxOf CX P w K mg base N qual scope f cd A outer s H E).ex := fun b z => absurd (show b ∈ ([] : List Addr) from z) (by simp)
  refine ⟨⟨e0.mod, S.kind, rfl, rfl, Nat.le_refl _, fun y z c h1 h2 => ?_, fun y hy => ?_, fun y c _ h => ?_, fun _ => hd, Around.frames_deeper e0.frames, .inr ⟨rfl, rfl⟩, fun b z => absurd z (noA b), e0.bs, e0.bsz, fun b _ _ => noA b, fun b z => absurd z (noA b), e0.funs, e0.frf⟩,
    rfl, e0.bare, Un.kept hk, ⟨_, x.toInCall.ns, fun i y v h1 h2 h3 => ?_⟩, fun y c h => ⟨_, x.cell y c h⟩, e0.hok.fresh (Nat.le_refl _), fun y c h => ?_, fun p hp => absurd (show p ∈ ([] : List (Addr × Obj)) from hp) (by simp), e0.hok.kept hk, ?_⟩
  · exact name_of_addr x.apart (PySem.mem_of_lookup h1) (PySem.mem_of_lookup h2)
  · have hy : scope.names.lookup y = some .cell ∨ scope.names.lookup y = some .free := hy
    rcases hy with hy | hy
    · exact cell_has hy
    · exact absurd rfl (S.nofree _ (PySem.mem_of_lookup hy))
  · exact Nat.le_of_lt (x.above y c (PySem.mem_of_lookup h))
  · have hi : i < vs.length := by
      unfold start at h2
      by_cases hi : i < vs.length
      · exact hi
      · rw [List.getElem?_append_right (by simpa using hi)] at h2
        rw [List.getElem?_replicate] at h2
        split at h2 <;> cases h2
    have ha : vs[i]? = some v := by
      unfold start at h2
      rw [List.getElem?_append_left (by simpa using hi), List.getElem?_map] at h2
      cases e : vs[i]? with
      | none => rw [e] at h2; cases h2
      | some a => rw [e] at h2; cases h2; rfl
    obtain ⟨u, hu, rv⟩ := r.get ha
    have hp : ps[i]? = some y := by
      rw [← S.pre, List.getElem?_take_of_lt (by omega)]; exact h1
    have ndP : ps.Nodup := by rw [← S.pre]; exact S.nd.sublist (List.take_sublist _ _)
    refine ⟨u, rv, ?_⟩
    rcases S.par y (List.mem_of_getElem? hp) with k | k
    · exact .inl ⟨k, bindL_get ndP hp hu k⟩
    · obtain ⟨c, e⟩ := cell_has (n := s.heap.objs.size + 1) k
      refine .inr ⟨.inl k, c, e, ?_⟩
      have q := x.cell y c e
      rw [bindC_get ndP hp hu (by show scope.names.lookup y ≠ _; rw [k]; decide)] at q
      exact q
  · exact e0.hok.fresh (Nat.le_of_lt (x.above y c (PySem.mem_of_lookup h)))
  · unfold start
    show _ = N.length
    rw [List.length_append, List.length_map, List.length_replicate]
    omega
theorem fn_of {CX : CXT} {P : Program} {w : World} {K : PySem.W.Frag} {mg : Str → Option Value} {base : Heap} {k : Nat} {f : Addr} {name qual : Str} {params : Arguments} {body : List Stmt} {scope : Scope} {dV kV doc pm cdv ct oc : Value} {an od : Option Addr}
    {osl : Array (Option Value)} {N ps : List Str} {sp : Sp} (lk : K.lookup f = some ⟨oc, od, .func (PySem.W.fnOf name qual params body scope dV kV doc pm an cdv ct), osl⟩) (hcd : PySem.W.codeIn K cdv qual = true) (S : FnScope N ps scope)
    (len : ∀ vs H Q E, sp vs H Q E → vs.length = ps.length)
    (hbody : ∀ (A : Around) (outer : List Env) (s : Shared) (H : Hp) (vs : List V) (Q : VK) (E : XK), Room k (A.deeper (envOfC qual scope s.heap.objs.size f cdv)) → sp vs H Q E →
      ∃ t, PSs (cxOf CX P w K mg base N qual scope f cdv A outer s H E) body t ∧ t { nx := fun _ H' => Q .non H', rt := Q } (start N vs) H) :
    FnOk P w K mg base CX (k + 1) f (PySem.W.fnOf name qual params body scope dV kV doc pm an cdv ct) ps sp := by
  refine ⟨len, fun A outer s H args us vs Q E hr e0 hb r hsp => ?_⟩
  have hl := len _ _ _ _ hsp
  have KX : K.In s.heap := e0.mod.kin.keeps fun b o e => (e0.bs b o e).1
  have lim : s.heap.NoLimit := e0.mod.nolimit.keeps fun b o e => (e0.bs b o e).1
  have hkind : ∀ y ∈ ps.zip us, scope.names.lookup y.1 = some .local ∨ (scope.names.lookup y.1 = some .cell ∧ ((cellsFrom (s.heap.objs.size + 1) scope.names []).lookup y.1).isSome = true) := fun ⟨n, v⟩ hy => by
    rcases S.par n (List.of_mem_zip hy).1 with q | q
    · exact .inl q
    · exact .inr ⟨q, PySem.W.cellsFrom_some _ _ _ (.inl q)⟩
  refine codeAny_call_function hr.depth (KX _ _ lk) rfl S.co S.gen rfl (PySem.W.codeRec_of KX hcd) (hb _ _ _ _ ?_)
  refine wpAny_newFunctionEnv_cells S.kind hkind fun env he s1 x => ?_
  subst he
  refine ⟨lim.keeps x.toInCall.keep, codeAny_func ?_⟩
  obtain ⟨t, ht, hq⟩ := hbody A outer s H vs Q E (hr.deeper _) hsp
  have I : Inv (cxOf CX P w K mg base N qual scope f cdv A outer s H E) [] (start N vs) H s1 := inv_start S hr.hd e0 hl r x
  refine wpAny_mono (ht [] s1 (start N vs) H _ I hq) (fun fl s' hs => ?_) fun e s' hs => hs
  have fin : ∀ {σ' : St} {H' : Hp} {v : V} {u : Value}, Inv (cxOf CX P w K mg base N qual scope f cdv A outer s H E) [] σ' H' s' → RelV v u → Q v H' → CE outer P w H s Q u s' :=
    fun {σ' H' v u} J rv q => ⟨v, H', J.os, J.bare, J.base, J.hok, rv, q⟩
  cases fl with
  | ret u =>
    obtain ⟨v, σ', H', J, rv, q⟩ := hs
    exact fin J rv q
  | next =>
    obtain ⟨σ', H', J, q⟩ := hs
    exact fin (v := V.non) (u := Value.none) J rfl q
  | brk =>
    obtain ⟨_, _, _, q⟩ := hs
    exact False.elim q
  | cont =>
    obtain ⟨_, _, _, q⟩ := hs
    exact False.elim q
end L2
namespace L2
open PySem PySem.Spec PyProof.Rows
section
variable {X : Cx} {x : Str} {p pos : Pos} {e : Expr} {es : List Expr} {t : TA} {id T : String} {r : List V → Hp → VK → Prop}
noncomputable def tCB (r : List V → Hp → VK → Prop) (t : TA) : TE := fun σ H Q => t σ H fun vs H1 => r vs H1 Q
theorem pe_callB (hc : CallR X (.builtin id) r) (hg : Gl X x) (hm : X.mg x = none) (hv : bootBuiltins x = some (.builtin id)) (ha : PA X (e :: es) t) (hn : x ≠ "__name__" := by decide) (hdb : (x == ("__debug__" : Str)) = false := by decide)
    (he : starEach (e :: es) X.env = (false, eval e X.env) :: starEach es X.env := by rfl) (hpl : (backTo pos (starEach es X.env)).any (·.1) = false := by rfl) : PE X (.Call (.Name x p) (e :: es) [] pos) (tCB r t) := by
  intro pins s σ H Q I h
  refine wpAny_Call_Name_kw (ld_blt I hg hm hv ?_ hn hdb)
  exact PyProof.Rows.callWith_builtin1 (thn (ha pos pins s σ H _ I h) fun us s1 ⟨vs, H1, I1, r1, q1⟩ => hc pins s1 σ H1 vs us Q I1 r1 q1) he hpl
theorem pe_callTy (hc : CallR X (.type T) r) (hg : Gl X x) (hm : X.mg x = none) (hv : bootBuiltins x = some (.type T)) (ha : PA X (e :: es) t) (hn : x ≠ "__name__" := by decide) (hdb : (x == ("__debug__" : Str)) = false := by decide)
    (he : starEach (e :: es) X.env = (false, eval e X.env) :: starEach es X.env := by rfl) (hpl : (backTo pos (starEach es X.env)).any (·.1) = false := by rfl) : PE X (.Call (.Name x p) (e :: es) [] pos) (tCB r t) := by
  intro pins s σ H Q I h
  refine wpAny_Call_Name_kw (ld_blt I hg hm hv ?_ hn hdb)
  exact PyProof.Rows.callWith_type1 (thn (ha pos pins s σ H _ I h) fun us s1 ⟨vs, H1, I1, r1, q1⟩ => hc pins s1 σ H1 vs us Q I1 r1 q1) he hpl
end
end L2
namespace HT
open PySem PyProof.Rows
noncomputable def lexLt : List Int → List Int → Bool
  | [], [] => false
  | [], _ :: _ => true
  | _ :: _, [] => false
  | x :: xs, y :: ys => if x = y then lexLt xs ys else decide (x < y)
theorem lexLt_cons (x y : Int) (xs ys : List Int) : lexLt (x :: xs) (y :: ys) = if x = y then lexLt xs ys else decide (x < y) := rfl
theorem lexLt_nil_nil : lexLt [] [] = false := rfl
theorem lexLt_nil_cons (y : Int) (ys : List Int) : lexLt [] (y :: ys) = true := rfl
theorem lexLt_cons_nil (x : Int) (xs : List Int) : lexLt (x :: xs) [] = false := rfl
theorem eqAt_int (A : Around) (s : Shared) (a : Int) (t : Tok) (c : Int) (u : Tok) : ∃ e, SeqAt.EqAt A s (.int a t) (.int c u) e ∧ (e = true ↔ a = c) :=
  ⟨(a == c), SeqAt.EqAt.int_int a t c u, by simp⟩
theorem rcLt_int (A : Around) (s : Shared) (a : Int) (t : Tok) (c : Int) (u : Tok) (prog : Program) (w : World) (E : Value → Shared → Prop) (Q : Value → Shared → Prop) (h : Q (.bool (decide (a < c))) s) :
    wpAny (model prog w) A (richCompare .Lt (.int a t) (.int c u)) Q E s :=
  (PyProof.Rows.lt_int h : wpAny (model prog w) A (compareOp .Lt (.int a t) (.int c u)) Q E s)
section
open PySem.SeqAt
open PySem.AutoSeq1 (wpAny_loadPart')
open PySem.MeetsSeq PySem.MeetsSeq2 PySem.MeetsSeq3
theorem tuple_lt_ints (l b : Addr) (items items2 : Array Value) (n n2 : Nat) (dd dd2 : Option Addr) (sl sl2 : Array (Option Value)) (ns ms : List Int) (hi : IntsAre items.toList ns) (hj : IntsAre items2.toList ms) :
    Meets (Builtin.«tuple.__lt__» ⟨[.ref l, .ref b], []⟩)
      (fun _ R s => s.heap.get? l = some { cls := .type "tuple", dict := dd, data := .seq items n, slots := sl } ∧ s.heap.get? b = some { cls := .type "tuple", dict := dd2, data := .seq items2 n2, slots := sl2 } ∧
        R (.ok (.ret (.bool (lexLt ns ms)))) s) :=
  .of_wp fun prog w A R s h => by
    obtain ⟨hp, g, d, tk, os⟩ := s; obtain ⟨hl, hb, h⟩ := h
    have f2 := AutoSeq1.sub_tuple_tuple
    have z1 : items.size = ns.length := by rw [← hi.length]; simp
    have z2 : items2.size = ms.length := by rw [← hj.length]; simp
    wp_walk using wpAny_loadPart' hl, wpAny_loadPart' hb, wpAny_forIn_list _ (fun rest b s' => b.1 = none ∧ s' = ⟨hp, g, d, tk, os⟩ ∧ ∃ (vs ws : List Value) (ns' ms' : List Int), rest = vs.zip ws ∧
      IntsAre vs ns' ∧ IntsAre ws ms' ∧ ns'.length + items2.size = ms'.length + items.size ∧ R (.ok (.ret (.bool (lexLt ns' ms')))) ⟨hp, g, d, tk, os⟩) _
    case turn =>
      rintro ⟨y, x⟩ rest b s' ⟨hb', rfl, vs, ws, ns', ms', hz, hvi, hwi, hlen, hR⟩
      cases hvi with
      | nil => rw [List.zip_nil_left] at hz; cases hz
      | cons a t hvi' =>
        cases hwi with
        | nil => rw [List.zip_nil_right] at hz; cases hz
        | cons c u hwi' =>
          rw [List.zip_cons_cons] at hz
          injection hz with hyx hrest
          injection hyx with hy hx
          subst hy hx
          rw [lexLt_cons] at hR
          simp only [List.length_cons] at hlen
          obtain ⟨e, he, hiff⟩ := eqAt_int A.in1 ⟨hp, g, d, tk, os⟩ a t c u
          refine wpAny_bind (he prog w _ _ ?_)
          cases e with
          | true =>
            rw [if_pos (hiff.mp rfl)] at hR
            wp_walk
            exact ⟨rfl, rfl, _, _, _, _, hrest, hvi', hwi', by omega, hR⟩
          | false =>
            rw [if_neg (fun q => absurd (hiff.mpr q) Bool.false_ne_true)] at hR
            have hri := rcLt_int A.in1 ⟨hp, g, d, tk, os⟩ a t c u prog w
            wp_walk using hri
            exact ⟨_, rfl, by simpa using hR⟩
    case fin =>
      rintro ⟨b1, b2⟩ s' ⟨hb', rfl, vs, ws, ns', ms', hz, hvi, hwi, hlen, hR⟩
      simp only at hb'
      subst hb'
      have hv : lexLt ns' ms' = decide (items.size < items2.size) := by
        cases hvi with
        | nil =>
          cases hwi with
          | nil =>
            simp only [List.length_nil] at hlen
            rw [lexLt_nil_nil]
            exact (decide_eq_false (by omega)).symm
          | cons c u hw =>
            simp only [List.length_nil, List.length_cons] at hlen
            rw [lexLt_nil_cons]
            exact (decide_eq_true (by omega)).symm
        | cons a t hv =>
          cases hwi with
          | nil =>
            simp only [List.length_nil, List.length_cons] at hlen
            rw [lexLt_cons_nil]
            exact (decide_eq_false (by omega)).symm
          | cons c u hw =>
            rw [List.zip_cons_cons] at hz
            cases hz
      rw [hv] at hR
      wp_walk
      exact ⟨_, rfl, by simpa [Builtin.Tuple.tupleCompareSizes] using hR⟩
    case h =>
      exact ⟨rfl, rfl, items.toList, items2.toList, ns, ms, rfl, hi, hj, by omega, h⟩
end
section
variable {prog : Program} {w : World} {A : Around} {E : Value → Shared → Prop} {s : Shared}
theorem lt_tupInts {l b : Addr} {items items2 : Array Value} {ns ms : List Int} {Q : Value → Shared → Prop} (hl : IsTup s.heap l items) (hb : IsTup s.heap b items2) (hi : IntsAre items.toList ns) (hj : IntsAre items2.toList ms)
    (hu : A.units < cLine) (h : Q (.bool (lexLt ns ms)) s) : wpAny (model prog w) A (compareOp .Lt (.ref l) (.ref b)) Q E s := by
  obtain ⟨⟨cls, dd, data, sl⟩, ho, hc, n, hd⟩ := id hl
  obtain ⟨⟨cls2, dd2, data2, sl2⟩, ho2, hc2, n2, hd2⟩ := id hb
  simp only at hc hd hc2 hd2
  subst hc hd hc2 hd2
  exact richCompare_meets_room (op := .Lt) ⟨_, ho, rfl⟩ ⟨_, ho2, rfl⟩ PySem.F.slot_tuple_lt PySem.F.entry_tuple_lt (PySem.F.args_tuple_lt_2 _ _) (tuple_lt_ints l b items items2 n n2 dd dd2 sl sl2 ns ms hi hj)
    ⟨ho, ho2, show Value.bool (lexLt ns ms) ≠ Value.notImplemented ∧ Q (.bool (lexLt ns ms)) s from ⟨(fun x => nomatch x), h⟩⟩ hu
theorem cat_tup {t b : Addr} {vs ws : List Value} {Q : Value → Shared → Prop} (ht : IsTup s.heap t vs.toArray) (hb : IsTup s.heap b ws.toArray) (hv : vs ≠ [])
    (h1 : ws = [] → Q (.ref t) s) (h2 : ws ≠ [] → Q (.ref s.heap.objs.size) { s with heap := s.heap.push { cls := .type "tuple", data := .seq (vs ++ ws).toArray } })
    (hsz : vs.length + ws.length ≤ sizeLine) : wpAny (model prog w) A (binaryOp .Add (.ref t) (.ref b)) Q E s := by
  obtain ⟨⟨cls, dd, data, sl⟩, ho, hc, n, hd⟩ := id ht
  obtain ⟨⟨cls2, dd2, data2, sl2⟩, ho2, hc2, n2, hd2⟩ := id hb
  simp only at hc hd hc2 hd2
  subst hc hd hc2 hd2
  have e : vs.toArray ++ ws.toArray = (vs ++ ws).toArray := by simp
  by_cases hw : ws = []
  · exact concat_meets ⟨_, ho, rfl⟩ ⟨_, ho2, rfl⟩ noFill_tuple_add seq_tuple_add PySem.F.slot_tuple_add PySem.F.entry_tuple_add (PySem.F.args_tuple_add_2 _ _)
      (tuple_addW1 t b vs.toArray ws.toArray n n2 dd dd2 sl sl2 (by simpa using hv) (by simp [hw])) ⟨ho, ho2, h1 hw⟩
  · refine concat_meets ⟨_, ho, rfl⟩ ⟨_, ho2, rfl⟩ noFill_tuple_add seq_tuple_add PySem.F.slot_tuple_add PySem.F.entry_tuple_add (PySem.F.args_tuple_add_2 _ _)
      (tuple_addW2 t b vs.toArray ws.toArray n n2 dd dd2 sl sl2 (by simpa using hv) (by simpa using hw) (by rw [List.size_toArray, List.size_toArray]; exact hsz)) ⟨ho, ho2, ?_⟩
    rw [e]
    exact h2 hw
noncomputable def sIx (n d : Nat) : Option Int → Nat
  | none => d
  | some v => if v < 0 then (v + (n : Int)).toNat else min v.toNat n
theorem sIx_nat (n d k : Nat) : sIx n d (some (k : Int)) = min k n := by
  show (if (k : Int) < 0 then ((k : Int) + (n : Int)).toNat else min (k : Int).toNat n) = min k n
  rw [if_neg (by omega), Int.toNat_natCast]
theorem sIx_le (n d : Nat) (hd : d ≤ n) (o : Option Int) : sIx n d o ≤ n := by
  cases o with
  | none => exact hd
  | some v =>
    show (if v < 0 then (v + (n : Int)).toNat else min v.toNat n) ≤ n
    by_cases hv : v < 0
    · rw [if_pos hv]; omega
    · rw [if_neg hv]; exact Nat.min_le_right _ _
theorem clip_eq (v : Int) (n d : Nat) : (if v < 0 then max (v + (n : Int)) 0 else min v (n : Int)) = ((sIx n d (some v) : Nat) : Int) := by
  show (if v < 0 then max (v + (n : Int)) 0 else min v (n : Int)) = (((if v < 0 then (v + (n : Int)).toNat else min v.toNat n) : Nat) : Int)
  by_cases hv : v < 0
  · simp only [if_pos hv]; omega
  · simp only [if_neg hv]; omega
theorem adjust_gen (lo hi : Option Int) (n : Nat) : Builtin.Slice.sliceAdjust lo hi 1 (n : Int) = (((sIx n 0 lo : Nat) : Int), ((sIx n n hi : Nat) : Int)) := by
  have h1 : ¬ ((1 : Int) < 0) := by omega
  unfold Builtin.Slice.sliceAdjust
  simp only [h1, if_false]
  refine Prod.ext ?_ ?_
  · cases lo with
    | none => rfl
    | some v => exact clip_eq v n 0
  · cases hi with
    | none => rfl
    | some v => exact clip_eq v n n
theorem places_gen (i j : Nat) : Builtin.Slice.slicePlaces (i : Int) (j : Int) 1 = j - i := by
  unfold Builtin.Slice.slicePlaces
  have h1 : (1 : Int) > 0 := by omega
  simp only [h1, if_true, Int.ediv_one]
  split <;> omega
theorem slicePart_ {v : Value} {o : Option Int} {Q : Option Int → Shared → Prop} (p : IsPart v o) (h : Q o s) : wpAny (model prog w) A (Builtin.Slice.slicePartIndex v) Q E s := by
  cases p with
  | none => exact slicePart_none h
  | int i t => exact slicePart_int h
theorem sliceApplied_gen {sl : Addr} {vl vu : Value} {lo hi : Option Int} {n : Nat} {Q : Int × Int × Nat → Shared → Prop} (hs : s.heap.IsSliceOf sl vl vu .none) (pl : IsPart vl lo) (pu : IsPart vu hi)
    (h : Q (((sIx n 0 lo : Nat) : Int), 1, sIx n n hi - sIx n 0 lo) s) : wpAny (model prog w) A (Builtin.Slice.sliceApplied (.ref sl) (pure (n : Int))) Q E s := by
  obtain ⟨os, hos, hcs, hds⟩ := id hs
  unfold Builtin.Slice.sliceApplied Builtin.Slice.sliceFields
  refine wpAny_bind (wpAny_bind (wpAny_field hos hds (x := vl) rfl (wpAny_bind (wpAny_field hos hds (x := vu) rfl (wpAny_bind (wpAny_field hos hds (x := .none) rfl (wpAny_pure ?_)))))))
  refine wpAny_bind (slicePart_none ?_)
  show wpAny _ _ (if ((1 : Int) == 0) = true then _ else _) _ _ s
  rw [if_neg (by decide)]
  refine wpAny_bind (slicePart_ pl (wpAny_bind (slicePart_ pu (wpAny_bind (wpAny_pure ?_)))))
  show wpAny _ _ (match Builtin.Slice.sliceAdjust lo hi 1 (n : Int) with | (lo, hi) => pure (lo, (1 : Int), Builtin.Slice.slicePlaces lo hi 1)) _ _ s
  rw [adjust_gen lo hi n]
  show wpAny _ _ (pure (((sIx n 0 lo : Nat) : Int), (1 : Int), Builtin.Slice.slicePlaces ((sIx n 0 lo : Nat) : Int) ((sIx n n hi : Nat) : Int) 1)) _ _ s
  rw [places_gen]
  exact wpAny_pure h
theorem pick_gen (xs : Array Value) (i k : Nat) : ((List.range k).filterMap fun (m : Nat) => xs[((i : Int) + (m : Int) * 1).toNat]?).toArray = ((xs.toList.drop i).take k).toArray := by
  have e : (fun (m : Nat) => xs[((i : Int) + (m : Int) * 1).toNat]?) = fun m => xs[i + m]? := by
    funext m
    have : ((i : Int) + (m : Int) * 1).toNat = i + m := by omega
    rw [this]
  rw [e]
  have := pick_run xs i k
  rw [List.filterMap_map] at this
  have e2 : ((fun x => xs[x]?) ∘ fun x => i + x) = fun m => xs[i + m]? := rfl
  rw [e2] at this
  rw [this]
theorem getItem_tuple_cut {t sl : Addr} {items : Array Value} {vl vu : Value} {lo hi : Option Int} {Q : Value → Shared → Prop} (ht : IsTup s.heap t items) (hs : s.heap.IsSliceOf sl vl vu .none) (pl : IsPart vl lo) (pu : IsPart vu hi)
    (hw : ¬ (sIx items.size 0 lo = 0 ∧ sIx items.size items.size hi = items.size))
    (h : Q (.ref s.heap.objs.size) { s with heap := s.heap.push { cls := .type "tuple", data := .seq ((items.toList.drop (sIx items.size 0 lo)).take (sIx items.size items.size hi - sIx items.size 0 lo)).toArray } })
    (hsz : items.size ≤ sizeLine) : wpAny (model prog w) A (getItem (.ref t) (.ref sl)) Q E s := by
  have htake : sizeOk (.seq ((items.toList.drop (sIx items.size 0 lo)).take (sIx items.size items.size hi - sIx items.size 0 lo)).toArray) := by
    show ((items.toList.drop (sIx items.size 0 lo)).take (sIx items.size items.size hi - sIx items.size 0 lo)).toArray.size ≤ sizeLine
    rw [List.size_toArray, List.length_take, List.length_drop, Array.length_toList]
    omega
  have hj : sIx items.size items.size hi ≤ items.size := sIx_le _ _ (Nat.le_refl _) hi
  obtain ⟨os, hos, hcs, hds⟩ := id hs
  have hTs : s.TypeIs (.ref sl) "slice" := ⟨os, hos, hcs⟩
  unfold getItem
  try with_reducible refine wpAny_holding ?_
  first | refine wpAny_bind (wpAny_pure ?_) | skip
  refine wpAny_bind (wpAny_sequenceKey ht.typeIs (by decide) ?_)
  refine wpAny_bind (wpAny_callSpecial?_slot (name := Str.ofString "__getitem__") ht.typeIs PyProof.Rows.slot_tuple_getitem
    (wpAny_call_entry PyProof.Rows.slot_tuple_getitem ht.typeIs entry_tuple_getitem ?_ (args_tuple_getitem _ _)))
  show wpAny _ _ (Builtin.Tuple.tupleItemsOf (.ref t) >>= _) _ _ s
  refine wpAny_bind (tupleItemsOf_ ht ?_)
  refine wpAny_bind (wpAny_typeOf hTs ?_)
  rw [if_pos (by decide)]
  refine wpAny_bind (sliceApplied_gen hs pl pu ?_)
  have hno : ¬ ((((sIx items.size 0 lo : Nat) : Int) == 0 && (1 : Int) == 1 && (sIx items.size items.size hi - sIx items.size 0 lo) == items.size) = true) := by
    intro q
    rw [Bool.and_eq_true, Bool.and_eq_true] at q
    have q1 : ((sIx items.size 0 lo : Nat) : Int) = 0 := eq_of_beq q.1.1
    have q2 : sIx items.size items.size hi - sIx items.size 0 lo = items.size := eq_of_beq q.2
    exact hw ⟨by omega, by omega⟩
  show wpAny _ _ (if (((sIx items.size 0 lo : Nat) : Int) == 0 && (1 : Int) == 1 && (sIx items.size items.size hi - sIx items.size 0 lo) == items.size) = true then _ else _) _ _ s
  rw [if_neg hno, pick_gen]
  first
    | exact wpAny_bind (m := Builtin.Tuple.tupleExact _) (wpAny_newObj_type (wpAny_pure ⟨_, rfl, wpAny_pure h⟩) htake)
    | exact wpAny_bind (m := Builtin.Tuple.tupleExact _) (wpAny_newObj_type (wpAny_bind (wpAny_pure (wpAny_pure ⟨_, rfl, wpAny_pure h⟩))) htake)
    | exact wpAny_bind (wpAny_bind (m := Builtin.Tuple.tupleExact _) (wpAny_newObj_type (wpAny_pure (wpAny_pure ⟨_, rfl, wpAny_pure h⟩)) htake))
    | exact wpAny_bind (wpAny_bind (m := Builtin.Tuple.tupleExact _) (wpAny_newObj_type (wpAny_pure ⟨_, rfl, wpAny_pure h⟩) htake))
end
end HT
namespace L2
open PySem PySem.Spec PyProof.Rows
noncomputable abbrev TO := St → Hp → (Option Int → Hp → Prop) → Prop
noncomputable def PO (X : Cx) (e : Option Expr) (t : TO) : Prop :=
  ∀ (pins : List (Addr × Obj)) (s : Shared) (σ : St) (H : Hp) (Q : Option Int → Hp → Prop), Inv X pins σ H s → t σ H Q →
    wpAny (model X.prog X.w) X.A (evalPart e X.env) (fun u s' => ∃ o H', Inv X pins σ H' s' ∧ IsPart u o ∧ Q o H') X.xe s
noncomputable def tNoPart : TO := fun _ H Q => Q none H
noncomputable def tPart (t : TE) : TO := fun σ H Q => t σ H fun x H1 => ∃ i, x = .int i ∧ Q (some i) H1
theorem intsAre_of {ns : List Int} : ∀ {us : List Value}, Vals (ns.map V.int) us → IntsAre us ns := by
  induction ns with
  | nil => intro us r; rw [List.map_nil] at r; cases r; exact .nil
  | cons n ns ih =>
    intro us r
    rw [List.map_cons] at r
    cases r with
    | cons r1 r2 =>
      obtain ⟨t, e⟩ := r1
      subst e
      exact .cons n t (ih r2)
section
variable {X : Cx} {e : Expr} {te : TE} {lo hi : Option Expr} {tl th : TO} {pos p2 : Pos}
theorem po_none : PO X none tNoPart := by
  intro pins s σ H Q I h
  rw [evalPart_none]
  exact wpAny_pure ⟨none, H, I, .none, h⟩
theorem po_some (h : PE X e te) : PO X (some e) (tPart te) := by
  intro pins s σ H Q I hw
  rw [evalPart_some]
  refine thn (h pins s σ H _ I hw) fun u s1 ⟨x, H1, I1, r1, q1⟩ => ?_
  obtain ⟨i, rfl, q⟩ := q1
  obtain ⟨t, rfl⟩ := r1
  exact ⟨some i, H1, I1, .int i t, q⟩
noncomputable def SlR (X : Cx) (r : V → Option Int → Option Int → Hp → VK → Prop) : Prop :=
  ∀ (pins : List (Addr × Obj)) (s : Shared) (σ : St) (H : Hp) (x : V) (v vl vu : Value) (lo hi : Option Int) (sl : Addr) (Q : VK), Inv X pins σ H s → RelV x v → s.heap.IsSliceOf sl vl vu .none → IsPart vl lo → IsPart vu hi → r x lo hi H Q →
    ∃ T id, typeLookup (.type T) "__getitem__" = pure (some (.builtin id)) ∧ s.TypeIs v T ∧ wpAny (model X.prog X.w) X.A (getItem v (.ref sl)) (EP X pins σ Q) X.xe s
noncomputable def tSl (r : V → Option Int → Option Int → Hp → VK → Prop) (te : TE) (tl th : TO) : TE := fun σ H Q => te σ H fun x H1 => tl σ H1 fun l H2 => th σ H2 fun u H3 => r x l u H3 Q
theorem pe_slice {r : V → Option Int → Option Int → Hp → VK → Prop} (hr : SlR X r) (he : PE X e te) (hl : PO X lo tl) (hu : PO X hi th) : PE X (.Subscript e (.Slice lo hi none p2) pos) (tSl r te tl th) := by
  intro pins s σ H Q I h
  refine Subscript_ (thn (he pins s σ H _ I h) fun v s1 ⟨x, H1, I1, r1, q1⟩ => ?_)
  refine wpAny_Slice (thn (hl pins s1 σ H1 _ I1 q1) fun vl s2 ⟨l, H2, I2, pl, q2⟩ => thn (hu pins s2 σ H2 _ I2 q2) fun vu s3 ⟨u, H3, I3, pu, q3⟩ => ?_)
  rw [evalPart_none]
  refine wpAny_pure ?_
  have I4 : Inv X pins σ H3 { s3 with heap := s3.heap.push { cls := .type "slice", data := .fields #[vl, vu, .none] } } := I3.kept (t' := s3.toks) fun b ob q => Heap.get?_push_of_some _ q
  obtain ⟨T, id, hT, ht, hg⟩ := hr pins { s3 with heap := s3.heap.push { cls := .type "slice", data := .fields #[vl, vu, .none] } } σ H3 x v vl vu l u s3.heap.objs.size Q I4 r1 (Heap.IsSliceOf.new ..) pl pu q3
  show wpAny (model X.prog X.w) X.A (subscriptTail e (.Slice lo hi none p2) v (.ref s3.heap.objs.size)) (EP X pins σ Q) X.xe { s3 with heap := s3.heap.push { cls := .type "slice", data := .fields #[vl, vu, .none] } }
  exact tail_any (ops := [.ref s3.heap.objs.size, v]) ht hT hg (by with_unfolding_all rfl)
noncomputable def cutV (xs : List V) (lo hi : Option Int) : List V := (xs.drop (HT.sIx xs.length 0 lo)).take (HT.sIx xs.length xs.length hi - HT.sIx xs.length 0 lo)
theorem cutV_length (xs : List V) (lo hi : Option Int) : (cutV xs lo hi).length ≤ xs.length := by
  unfold cutV
  rw [List.length_take, List.length_drop]
  omega
noncomputable def rLtT (K : PySem.W.Frag) : R2 := fun x y H Q => ∃ a b ns ms, x = .ref a ∧ y = .ref b ∧ SqT K H a (ns.map V.int) ∧ SqT K H b (ms.map V.int) ∧ Q (.bl (HT.lexLt ns ms)) H
theorem op_ltT (hu : X.A.units < cLine) : OpR X (compareOp .Lt) (rLtT X.K) := by
  intro pins s σ H x y v u Q I rx ry h
  obtain ⟨a, b, ns, ms, rfl, rfl, ha, hb, q⟩ := h
  cases rx
  cases ry
  obtain ⟨its, r1, p1, _⟩ := I.tuple ha
  obtain ⟨its2, r2, p2, _⟩ := I.tuple hb
  have i1 : IntsAre its.toArray.toList ns := intsAre_of r1
  have i2 : IntsAre its2.toArray.toList ms := intsAre_of r2
  exact HT.lt_tupInts p1 p2 i1 i2 hu ⟨.bl (HT.lexLt ns ms), H, I, rfl, q⟩
theorem Vals.nil_iff {xs : List V} {us : List Value} (r : Vals xs us) : us = [] ↔ xs = [] := by
  cases r with
  | nil => simp
  | cons _ _ => simp
end
end L2
namespace L2
open PySem PySem.Spec PyProof.Rows
noncomputable def ixN (n : Nat) (i : Int) : Option Nat := if 0 ≤ i then (if i < n then some i.toNat else none) else if -(n : Int) ≤ i then some (i + n).toNat else none
noncomputable def atI {α : Type} (xs : List α) (i : Int) : Option α := (ixN xs.length i).bind fun j => xs[j]?
theorem ixN_seq {n : Nat} {i : Int} {j : Nat} (h : ixN n i = some j) : seqIndex? i n = some j ∧ j < n ∧ -(n : Int) ≤ i ∧ i < n := by
  unfold ixN at h
  by_cases h0 : 0 ≤ i
  · rw [if_pos h0] at h
    by_cases h1 : i < n
    · rw [if_pos h1] at h
      have e : i.toNat = j := Option.some.inj h
      exact ⟨by rw [seqIndex_of h0 h1, e], by omega, by omega, h1⟩
    · rw [if_neg h1] at h; cases h
  · rw [if_neg h0] at h
    by_cases h1 : -(n : Int) ≤ i
    · rw [if_pos h1] at h
      have e : (i + n).toNat = j := Option.some.inj h
      exact ⟨by rw [seqIndex_neg (by omega) h1, e], by omega, h1, by omega⟩
    · rw [if_neg h1] at h; cases h
theorem atI_get {α : Type} {xs : List α} {i : Int} {v : α} (h : atI xs i = some v) : ∃ j, seqIndex? i xs.length = some j ∧ xs[j]? = some v ∧ j < xs.length ∧ -(xs.length : Int) ≤ i ∧ i < xs.length := by
  unfold atI at h
  cases e : ixN xs.length i with
  | none => rw [e] at h; cases h
  | some j =>
    rw [e] at h
    obtain ⟨h1, h2, h3, h4⟩ := ixN_seq e
    exact ⟨j, h1, h, h2, h3, h4⟩
theorem atI_nat {α : Type} {xs : List α} {j : Nat} {v : α} (h : xs[j]? = some v) : atI xs (j : Int) = some v := by
  have hj : j < xs.length := (List.getElem?_eq_some_iff.mp h).1
  have e : ixN xs.length (j : Int) = some j := by
    unfold ixN
    rw [if_pos (by omega), if_pos (by omega)]; simp
  unfold atI; rw [e]; exact h
noncomputable def PlainIx (b : Expr) : Prop := ∀ o i, subscripted b false o i = operate [o, i] (getItem o i)
noncomputable def IxR (X : Cx) (r : R2) : Prop :=
  ∀ (value slice : Expr) (pins : List (Addr × Obj)) (s : Shared) (σ : St) (H : Hp) (x y : V) (v u : Value) (Q : VK), Inv X pins σ H s → RelV x v → RelV y u → r x y H Q →
    subscripted slice false v u = operate [v, u] (getItem v u) → wpAny (model X.prog X.w) X.A (subscriptTail value slice v u) (EP X pins σ Q) X.xe s
noncomputable def MtR (X : Cx) (id : String) (r : V → List V → Hp → VK → Prop) : Prop :=
  ∀ (pins : List (Addr × Obj)) (s : Shared) (σ : St) (H : Hp) (x : V) (xs : List V) (v : Value) (us : List Value) (Q : VK), Inv X pins σ H s → RelV x v → Vals xs us → r x xs H Q →
    wpAny (model X.prog X.w) X.A (call (.builtin id) (v :: us)) (EP X pins σ Q) X.xe s
section
variable {X : Cx} {a b : Expr} {ta tb : TE} {pos : Pos}
theorem pe_ix {r : R2} (hr : IxR X r) (ha : PE X a ta) (hb : PE X b tb) (hs : PlainIx b) : PE X (.Subscript a b pos) (tOp r ta tb) := by
  intro pins s σ H Q I h
  exact Subscript_ (binT ha hb I h fun v u s2 x y H2 I2 rx ry q => hr a b pins s2 σ H2 x y v u Q I2 rx ry q (hs _ _))
noncomputable def rIxL (K : PySem.W.Frag) : R2 := fun x y H Q => ∃ p xs i v, x = .ref p ∧ y = .int i ∧ SqL K H p xs ∧ atI xs i = some v ∧ Q v H
noncomputable def rIxT (K : PySem.W.Frag) : R2 := fun x y H Q => ∃ p xs i v, x = .ref p ∧ y = .int i ∧ SqT K H p xs ∧ atI xs i = some v ∧ Q v H
theorem ix_list : IxR X (rIxL X.K) := by
  intro value slice pins s σ H x y v u Q I rx ry h hs
  obtain ⟨p, xs, i, z, rfl, rfl, hq, he, q⟩ := h
  cases rx
  obtain ⟨t, rfl⟩ := ry
  obtain ⟨its, r, pl, hz⟩ := I.list hq
  obtain ⟨j, h1, h2, h3, h4, h5⟩ := atI_get he
  obtain ⟨w, ew, rw'⟩ := r.get h2
  have hl := r.length
  have hn := line63
  have fin : EP X pins σ Q w s := ⟨z, H, I, rw', q⟩
  by_cases h0 : 0 ≤ i
  · have hj : i.toNat = j := by
      rw [seqIndex_of h0 h5] at h1
      exact Option.some.inj h1
    exact item_listR pl.isList h0 (by omega) (by rw [hj]; simpa using ew) fin hs
  · have hj : (i + (its.toArray.size : Int)).toNat = j := by
      rw [seqIndex_neg (by omega) h4] at h1
      rw [List.size_toArray, ← hl]
      exact Option.some.inj h1
    exact subscriptTail_builtinR (x := w) pl.isList.typeIs slot_list_getitem.lookup
      (wpAny_getItem_list_neg (Q := fun r s' => r = w ∧ EP X pins σ Q r s') pl.isList (by omega) (by rw [List.size_toArray] <;> omega) (by omega) (by rw [hj]; simpa using ew) ⟨rfl, fin⟩) hs
theorem ix_tup : IxR X (rIxT X.K) := by
  intro value slice pins s σ H x y v u Q I rx ry h hs
  obtain ⟨p, xs, i, z, rfl, rfl, hq, he, q⟩ := h
  cases rx
  obtain ⟨t, rfl⟩ := ry
  obtain ⟨its, r, pl, hz⟩ := I.tuple hq
  obtain ⟨j, h1, h2, h3, h4, h5⟩ := atI_get he
  obtain ⟨w, ew, rw'⟩ := r.get h2
  have hl := r.length
  have hn := line63
  have fin : EP X pins σ Q w s := ⟨z, H, I, rw', q⟩
  exact subscriptTail_builtinR (x := w) pl.typeIs slot_tuple_getitem.lookup
    (getItem_tuple (j := j) (Q := fun r s' => r = w ∧ EP X pins σ Q r s') pl (by omega) (by omega) (by rw [List.size_toArray, ← hl]; exact h1) (by simpa using ew) ⟨rfl, fin⟩) hs
theorem mapSeq_set (its : List Value) (n j : Nat) (u : Value) : Obj.mapSeq (·.setIfInBounds j u) { cls := .type "list", data := .seq its.toArray n } = { cls := .type "list", data := .seq (its.set j u).toArray n } := by
  simp [Obj.mapSeq]
theorem Inv.lst {pins : List (Addr × Obj)} {σ : St} {H : Hp} {s : Shared} {p : Addr} {xs : List V} (I : Inv X pins σ H s) (h : H p = some (.lst xs)) :
    ∃ (its : List Value) (n : Nat), Vals xs its ∧ s.heap.get? p = some { cls := .type "list", data := .seq its.toArray n } ∧ xs.length ≤ sizeLine := by
  obtain ⟨z, its, n, r, e⟩ := I.hok p _ h
  exact ⟨its, n, r, e, z⟩
theorem Inv.lstUpd {pins : List (Addr × Obj)} {σ : St} {H : Hp} {s : Shared} {p : Addr} {xs ys : List V} {its its' : List Value} {n n' : Nat} {f : Obj → Obj} (I : Inv X pins σ H s) (h : H p = some (.lst xs))
    (ho : s.heap.get? p = some { cls := .type "list", data := .seq its.toArray n }) (hf : f { cls := .type "list", data := .seq its.toArray n } = { cls := .type "list", data := .seq its'.toArray n' }) (r : Vals ys its') (hz : ys.length ≤ sizeLine) (t : Nat) :
    Inv X pins σ (upd H p (.lst ys)) { s with heap := s.heap.update p f, toks := t } := by
  have e : (s.heap.update p f).get? p = some { cls := .type "list", data := .seq its'.toArray n' } := by
    rw [Heap.get?_update_self f ho (by rw [hf] <;> rfl), hf]
  refine I.write (x := p) (e := p) (by rw [h]; trivial) (.inl rfl) (fun b u hb q => (Heap.get?_update_other _ _ (Ne.symm hb)).trans q) ⟨_, e⟩ ?_
  exact ⟨hz, its', n', r, e⟩
noncomputable def rSetL : V → V → V → Hp → (Hp → Prop) → Prop := fun o i v H Q => ∃ p xs k j, o = .ref p ∧ i = .int k ∧ H p = some (.lst xs) ∧ ixN xs.length k = some j ∧ Q (upd H p (.lst (xs.set j v)))
theorem set_list : PSet X rSetL := by
  intro pins s σ H o i v ov iv u Q I ro ri rv h
  obtain ⟨p, xs, k, j, rfl, rfl, hp, hj, q⟩ := h
  cases ro
  obtain ⟨t, rfl⟩ := ri
  obtain ⟨its, n, r, ho, hz⟩ := I.lst hp
  obtain ⟨h1, h2, h3, h4⟩ := ixN_seq hj
  have hl := r.length
  have hn := line63
  have I' : Inv X pins σ (upd H p (.lst (xs.set j v))) { s with heap := s.heap.update p (Obj.mapSeq (·.setIfInBounds j u)) } :=
    I.lstUpd hp ho (mapSeq_set its n j u) (r.set rv j) (by rw [List.length_set]; exact hz) s.toks
  by_cases h0 : 0 ≤ k
  · have hk : k.toNat = j := by
      rw [seqIndex_of h0 h4] at h1
      exact Option.some.inj h1
    exact PySem.W.ki_setAt ho h0 (by omega) (by rw [List.size_toArray, ← hl]; exact h4) (by rw [hk]; exact ⟨_, I', q⟩)
  · have hk : (k + (its.toArray.size : Int)).toNat = j := by
      rw [seqIndex_neg (by omega) h3] at h1
      rw [List.size_toArray, ← hl]
      exact Option.some.inj h1
    exact PySem.W.ki_setBack ho (by omega) (by rw [List.size_toArray, ← hl]; exact h3) (by omega) (by rw [hk]; exact ⟨_, I', q⟩)
theorem slice_bounds (lo hi : Option Int) (n : Nat) : (sliceBounds lo hi none n).1 = ((HT.sIx n 0 lo : Nat) : Int) ∧ (sliceBounds lo hi none n).2.1 = ((HT.sIx n n hi : Nat) : Int) ∧ (sliceBounds lo hi none n).2.2 = 1 := by
  refine ⟨?_, ?_, rfl⟩
  · cases lo with
    | none => simp [sliceBounds, HT.sIx]
    | some i =>
      simp only [sliceBounds, HT.sIx, Option.getD_none, show (1 : Int) > 0 by decide, if_true]
      by_cases h : i < 0
      · simp only [h, if_true] <;> omega
      · simp only [h, if_false] <;> omega
  · cases hi with
    | none => simp [sliceBounds, HT.sIx]
    | some i =>
      simp only [sliceBounds, HT.sIx, Option.getD_none, show (1 : Int) > 0 by decide, if_true]
      by_cases h : i < 0
      · simp only [h, if_true] <;> omega
      · simp only [h, if_false] <;> omega
theorem slicePick_cut (its : List Value) (lo hi : Option Int) : slicePick its.toArray lo hi none = ((its.drop (HT.sIx its.length 0 lo)).take (HT.sIx its.length its.length hi - HT.sIx its.length 0 lo)).toArray := by
  obtain ⟨h1, h2, h3⟩ := slice_bounds lo hi its.toArray.size
  unfold slicePick
  rw [h1, h2, h3]
  simp only [sliceRange_one, pick_run, List.size_toArray] <;> rfl
noncomputable def rSlL (K : PySem.W.Frag) : V → Option Int → Option Int → Hp → VK → Prop := fun x lo hi H Q => ∃ a xs, x = .ref a ∧ SqL K H a xs ∧ ∀ p, H p = none → Q (.ref p) (upd H p (.lst (cutV xs lo hi)))
theorem sl_list : SlR X (rSlL X.K) := by
  intro pins s σ H x v vl vu lo hi sl Q I rx hs pl pu h
  obtain ⟨a, xs, rfl, hx, q⟩ := h
  cases rx
  obtain ⟨its, r, ht, hz⟩ := I.list hx
  have hlen := r.length
  refine ⟨"list", _, slot_list_getitem.lookup, ht.isList.typeIs, ?_⟩
  refine wpAny_getItem_list_slice ht.isList hs pl pu .none (by simp) ?_ (by rw [List.size_toArray] <;> omega)
  rw [slicePick_cut, ← hlen]
  refine ⟨.ref s.heap.objs.size, _, I.laid (t' := s.toks) (o := .lst (cutV xs lo hi)) (fun b ob q => Heap.get?_push_of_some _ q) (Nat.le_refl _) ?_, rfl, q _ (I.hok.fresh (Nat.le_refl _))⟩
  exact ⟨Nat.le_trans (cutV_length xs lo hi) hz, _, 0, (r.drop (HT.sIx xs.length 0 lo)).take (HT.sIx xs.length xs.length hi - HT.sIx xs.length 0 lo), Heap.get?_push_size _ rfl⟩
theorem call_len_seq : CallR X (.builtin "len") (fun xs H Q => ∃ p ys, xs = [.ref p] ∧ (SqL X.K H p ys ∨ SqT X.K H p ys) ∧ Q (.int ys.length) H) := by
  intro pins s σ H xs us Q I r h
  obtain ⟨p, ys, rfl, hq, q⟩ := h
  obtain ⟨u, rfl, rx⟩ := vals1 r
  cases rx
  have hn := line63
  rcases hq with hq | hq
  · obtain ⟨its, r', pl, hz⟩ := I.list hq
    have hlen := r'.length
    exact Calls.call_len_list pl.isList (by simp only [List.size_toArray] <;> omega) ⟨.int ys.length, H, I.tok _, ⟨s.toks + 1, by rw [List.size_toArray, hlen]⟩, q⟩
  · obtain ⟨its, r', pl, hz⟩ := I.tuple hq
    have hlen := r'.length
    exact len_tuple pl (by simp only [List.size_toArray] <;> omega) ⟨.int ys.length, H, I.tok _, ⟨s.toks + 1, by rw [List.size_toArray, hlen]⟩, q⟩
theorem call_len_str : CallR X (.builtin "len") (fun xs H Q => ∃ z, xs = [.str z] ∧ z.length ≤ sizeLine ∧ Q (.int z.length) H) := by
  intro pins s σ H xs us Q I r h
  obtain ⟨z, rfl, hz, q⟩ := h
  obtain ⟨u, rfl, t, rfl⟩ := vals1 r
  have hn := line63
  exact len_str (by omega) ⟨.int z.length, H, I.tok _, ⟨_, rfl⟩, q⟩
theorem call_list_of : CallR X (.type "list") (fun xs H Q => ∃ p ys, xs = [.ref p] ∧ (SqL X.K H p ys ∨ SqT X.K H p ys) ∧ ∀ l, H l = none → Q (.ref l) (upd H l (.lst ys))) := by
  intro pins s σ H xs us Q I r h
  obtain ⟨p, ys, rfl, hq, q⟩ := h
  obtain ⟨u, rfl, rx⟩ := vals1 r
  cases rx
  have fin : ∀ (its : List Value), Vals ys its → ys.length ≤ sizeLine → ∀ (h' : Heap) (c' : Nat), (∀ b o', s.heap.get? b = some o' → h'.get? b = some o') →
      h'.get? s.heap.objs.size = some { cls := .type "list", dict := none, data := .seq its.toArray c', slots := #[] } → EP X pins σ Q (.ref s.heap.objs.size) { s with heap := h' } := fun its r' hz h' c' kp e =>
    ⟨.ref s.heap.objs.size, _, I.laid (t' := s.toks) kp (Nat.le_refl _) (show ObjOk X.prog X.w _ h' _ (.lst ys) from ⟨hz, its, c', r', e⟩), rfl, q _ (I.hok.fresh (Nat.le_refl _))⟩
  rcases hq with hq | hq
  · obtain ⟨its, r', pl, hz⟩ := I.list hq
    have hlen := r'.length
    obtain ⟨o, ho, hc, n, hd⟩ := pl.isList
    exact call_list_seq p (.inl rfl) ho hc hd (fun h' c' kp e => fin its r' hz h' c' kp e) (by simp only [List.size_toArray] <;> omega)
  · obtain ⟨its, r', pl, hz⟩ := I.tuple hq
    have hlen := r'.length
    obtain ⟨o, ho, hc, n, hd⟩ := pl
    exact call_list_seq p (.inr rfl) ho hc hd (fun h' c' kp e => fin its r' hz h' c' kp e) (by simp only [List.size_toArray] <;> omega)
theorem call_tuple_of : CallR X (.type "tuple") (fun xs H Q => ∃ p ys, xs = [.ref p] ∧ ((SqL X.K H p ys ∧ ∀ l, H l = none → Q (.ref l) (upd H l (.tup ys))) ∨ (SqT X.K H p ys ∧ Q (.ref p) H))) := by
  intro pins s σ H xs us Q I r h
  obtain ⟨p, ys, rfl, h⟩ := h
  obtain ⟨u, rfl, rx⟩ := vals1 r
  cases rx
  rcases h with ⟨hq, q⟩ | ⟨hq, q⟩
  · obtain ⟨its, r', pl, hz⟩ := I.list hq
    have hlen := r'.length
    refine call_tuple_list pl.isList (fun h' kp => ?_) (by simp only [List.size_toArray] <;> omega)
    have I1 : Inv X pins σ H { s with heap := h' } := I.kept (t' := s.toks) kp
    have I2 : Inv X pins σ (upd H h'.objs.size (.tup ys)) { s with heap := h'.push { cls := .type "tuple", data := .seq its.toArray } } :=
      I1.laid (t' := s.toks) (fun b o e => Heap.get?_push_of_some _ e) (Nat.le_refl _) (show ObjOk X.prog X.w _ _ _ (.tup ys) from ⟨hz, its, r', IsTup.new _ _⟩)
    exact ⟨.ref h'.objs.size, _, I2, rfl, q _ (I1.hok.fresh (Nat.le_refl _))⟩
  · obtain ⟨its, r', pl, hz⟩ := I.tuple hq
    exact call_tuple_same pl ⟨.ref p, H, I, rfl, q⟩
noncomputable def tyV (K : PySem.W.Frag) (T : String) (x : V) (H : Hp) : Prop := match x with
  | .str _ => T = "str"
  | .int _ => T = "int"
  | .ref p => (T = "list" ∧ ∃ xs, SqL K H p xs) ∨ (T = "tuple" ∧ ∃ o, K.lookup p = some o ∧ o.cls = .type "tuple" ∧ o.dict = none) ∨
      (T = "dict" ∧ ((∃ kvs, H p = some (.dK kvs)) ∨ ∃ kvs, H p = some (.dT kvs))) ∨ (T = "set" ∧ ∃ S n, H p = some (.set S n))
  | _ => False
theorem tyV_is {pins : List (Addr × Obj)} {σ : St} {H : Hp} {s : Shared} {T : String} {x : V} {v : Value} (I : Inv X pins σ H s) (r : RelV x v) (ty : tyV X.K T x H) :
    s.TypeIs v T ∧ ∀ a, v = .ref a → ∃ ob, s.heap.get? a = some ob ∧ ob.dict = none := by
  cases x with
  | str z =>
    obtain ⟨t, rfl⟩ := r
    cases (show T = "str" from ty)
    exact ⟨typeIs_str s z t, fun _ e => nomatch e⟩
  | int i =>
    obtain ⟨t, rfl⟩ := r
    cases (show T = "int" from ty)
    exact ⟨typeIs_int s i t, fun _ e => nomatch e⟩
  | ref p =>
    cases r
    rcases ty with ⟨rfl, xs, hq⟩ | ⟨rfl, o, hk, hc, hd⟩ | ⟨rfl, hk⟩ | ⟨rfl, S, n, hk⟩
    · obtain ⟨its, _, pl, _⟩ := I.list hq
      refine ⟨pl.isList.typeIs, fun a e => ?_⟩
      cases e
      obtain ⟨o, n, e, c, hd, _⟩ := pl
      exact ⟨o, e, hd⟩
    · refine ⟨⟨o, I.kIn p o hk, hc⟩, fun a e => ?_⟩
      cases e
      exact ⟨o, I.kIn _ o hk, hd⟩
    · have z : ∃ o, s.heap.get? p = some o ∧ o.ExactDict := by
        rcases hk with ⟨kvs, hk⟩ | ⟨kvs, hk⟩
        · obtain ⟨_, _, _, _, o, _, _, e, ex, _⟩ := I.hok p _ hk
          exact ⟨o, e, ex⟩
        · obtain ⟨_, _, _, _, o, _, _, e, ex, _⟩ := I.hok p _ hk
          exact ⟨o, e, ex⟩
      obtain ⟨o, e, ex⟩ := z
      refine ⟨⟨o, e, ex.1⟩, fun a e2 => ?_⟩
      cases e2
      exact ⟨o, e, ex.2.1⟩
    · obtain ⟨o, _, _, _, e, ex, _⟩ := I.hok p _ hk
      refine ⟨⟨o, e, ex.1⟩, fun a e2 => ?_⟩
      cases e2
      exact ⟨o, e, ex.2.1⟩
  | _ => exact False.elim ty
noncomputable def tBM (K : PySem.W.Frag) (T : String) (r : V → List V → Hp → VK → Prop) (to : TE) (t : TA) : TE := fun σ H Q => to σ H fun x H1 => tyV K T x H1 ∧ t σ H1 fun xs H2 => r x xs H2 Q
variable {o e : Expr} {es : List Expr} {to : TE} {t : TA} {name : Str} {apos cpos : Pos} {T id : String} {r : V → List V → Hp → VK → Prop}
theorem pe_bm (pa : PlainAttrs T) (slot : Slot T name id) (hty : typeOf (.builtin id) = pure (.type "method_descriptor")) (hm : MtR X id r) (ho : PE X o to) (ha : PA X (e :: es) t)
    (hbase : attributeBase o name X.env (eval o X.env) = eval o X.env := by rfl)
    (hfew : ((backTo cpos (starEach (e :: es) X.env)).all (fun x => !x.1) && (backToKw cpos (keywordEach [] X.env)).all (fun x => x.1.isSome)
      && decide ((e :: es).length + ([] : List Keyword).length + (if ([] : List Keyword).isEmpty then 0 else 1) < 30)) = true := by rfl)
    (hline : (apos.endLine == cpos.line) = true := by rfl) (hs : starEach (e :: es) X.env = (false, eval e X.env) :: starEach es X.env := by rfl) (hplain : (backTo cpos (starEach es X.env)).any (·.1) = false := by rfl) :
    PE X (.Call (.Attribute o name apos) (e :: es) [] cpos) (tBM X.K T r to t) := by
  intro pins s σ H Q I h
  refine wpAny_Call_method_late hbase hfew hline rfl (thn (ho pins s σ H _ I h) fun v s1 ⟨x, H1, I1, r1, ty, q1⟩ => ?_)
  obtain ⟨h1, h2⟩ := tyV_is I1 r1 ty
  refine ⟨T, id, pa, slot, hty, h1, h2, ?_⟩
  have hA := ha cpos pins s1 σ H1 _ I1 q1
  rw [hs] at hA ⊢
  refine Calls.callWith_builtin (by show (false || (backTo cpos (starEach es X.env)).any (·.1)) = false; rw [hplain] <;> rfl) (Calls.evalArgs_plain ?_)
  exact thn hA fun us s2 ⟨vs, H2, I2, r2, q2⟩ => hm pins s2 σ H2 x vs v us Q I2 r1 r2 q2
/- xs.append(e), list.index on a module's tuple .. are MtR facts of 06m -/
end
end L2
namespace L2
open PySem PySem.Spec PyProof.Rows
noncomputable def MtM (X : Cx) (id : String) (r : V → List V → Hp → VK → Prop) : Prop :=
  ∀ (pins : List (Addr × Obj)) (s : Shared) (σ : St) (H : Hp) (x : V) (xs : List V) (v : Value) (us : List Value) (Q : VK), Inv X pins σ H s → RelV x v → Vals xs us → r x xs H Q →
    wpAny (model X.prog X.w) X.A (call (.builtin id) (v :: us)) (EP X pins σ Q) X.xe s
theorem Vals.one : ∀ {x : V} {us : List Value}, Vals [x] us → ∃ u, us = [u] ∧ RelV x u
  | _, _, .cons r .nil => ⟨_, rfl, r⟩
section
variable {X : Cx} {pins : List (Addr × Obj)} {σ : St} {H : Hp} {s : Shared} {l b : Addr} {xs ys zs : List V}
theorem Inv.lset {its its' : List Value} {n : Nat} {f : Array Value → Array Value} {t' : Nat} (I : Inv X pins σ H s) (hH : H l = some (.lst xs))
    (e : s.heap.get? l = some { cls := .type "list", data := .seq its.toArray n }) (hf : f its.toArray = its'.toArray) (hv : Vals ys its') (hz : ys.length ≤ sizeLine) :
    Inv X pins σ (upd H l (.lst ys)) { s with heap := s.heap.update l (Obj.mapSeq f), toks := t' } := by
  have q := PySem.IsL.update e f
  rw [hf] at q
  refine I.write (x := l) (e := l) (by rw [hH]; exact trivial) (.inl rfl) (fun b' u hb hu => (Heap.get?_update_other s.heap (Obj.mapSeq f) (Ne.symm hb)).trans hu) ⟨_, q⟩ ?_
  exact ⟨hz, its', _, hv, q⟩
theorem Inv.lnew {its : List Value} {t' : Nat} (I : Inv X pins σ H s) (hv : Vals ys its) (hz : ys.length ≤ sizeLine) :
    Inv X pins σ (upd H s.heap.objs.size (.lst ys)) { s with heap := s.heap.push { cls := .type "list", data := .seq its.toArray }, toks := t' } :=
  I.laid (fun _ _ q => Heap.get?_push_of_some _ q) (Nat.le_refl _) ⟨hz, its, 0, hv, Heap.get?_push_size _ rfl⟩
theorem Inv.fresh (I : Inv X pins σ H s) : H s.heap.objs.size = none := I.hok.fresh (Nat.le_refl _)
theorem Inv.lstM (I : Inv X pins σ H s) (hH : H l = some (.lst xs)) : xs.length ≤ sizeLine ∧ ∃ (its : List Value) (n : Nat), Vals xs its ∧ xs.length = its.length ∧ s.heap.get? l = some { cls := .type "list", data := .seq its.toArray n } := by
  obtain ⟨z, its, n, r, e⟩ := I.hok l _ hH
  exact ⟨z, its, n, r, r.length, e⟩
end
section
variable {X : Cx}
noncomputable def rAppend : V → List V → Hp → VK → Prop := fun x vs H Q => ∃ l xs y, x = .ref l ∧ vs = [y] ∧ H l = some (.lst xs) ∧ xs.length < sizeLine ∧ Q .non (upd H l (.lst (xs ++ [y])))
theorem mt_append : MtM X "list.append" rAppend := by
  intro pins s σ H x vs v us Q I rx rv h
  obtain ⟨l, xs, y, rfl, rfl, hH, hz, q⟩ := h
  cases rx
  obtain ⟨u, rfl, ru⟩ := rv.one
  obtain ⟨z, its, n, r, hl, e⟩ := I.lstM hH
  refine call_meets F.slot_list_append ⟨_, e, rfl⟩ F.entry_list_append (F.args_list_append_2 _ _) (PySem.list_append l its.toArray n u (by rw [List.size_toArray]; omega)) ⟨e, ?_⟩
  refine ⟨.non, _, I.lset (its' := its ++ [u]) hH e (by simp) (r.append (.cons ru .nil)) ?_, rfl, q⟩
  rw [List.length_append, List.length_singleton]
  omega
noncomputable def rCat : R2 := fun x y H Q => ∃ l b xs zs, x = .ref l ∧ y = .ref b ∧ H l = some (.lst xs) ∧ H b = some (.lst zs) ∧ xs.length + zs.length ≤ sizeLine ∧ ∀ p, H p = none → Q (.ref p) (upd H p (.lst (xs ++ zs)))
theorem op_cat : OpR X (binaryOp .Add) rCat := by
  intro pins s σ H x y v u Q I rx ry h
  obtain ⟨l, b, xs, zs, rfl, rfl, hH, hB, hz, q⟩ := h
  cases rx
  cases ry
  obtain ⟨z, its, n, r, hl, e⟩ := I.lstM hH
  obtain ⟨z2, its2, n2, r2, hl2, e2⟩ := I.lstM hB
  refine PySem.P.add_list e e2 ?_ (by rw [List.size_toArray, List.size_toArray]; omega)
  have ea : its.toArray ++ its2.toArray = (its ++ its2).toArray := by simp
  rw [ea]
  exact ⟨.ref _, _, I.lnew (t' := s.toks) (r.append r2) (by rw [List.length_append]; omega), rfl, q _ I.fresh⟩
end
section
variable {prog : Program} {w : World} {A : Around} {E : Value → Shared → Prop} {s : Shared}
set_option maxRecDepth 100000 in
end
section
variable {X : Cx}
end
end L2
namespace Att
open PySem PySem.W PySem.Calls PyProof.Rows
theorem ints_of_wellAll {P : Params} {h : Heap} : ∀ (ns : List Int) (vs : List Value), WellAll P h vs (ns.map WData.int) → IntsAre vs ns := by
  intro ns
  induction ns with
  | nil =>
    intro vs w
    rw [List.map_nil] at w
    cases w
    exact .nil
  | cons n ns ih =>
    intro vs w
    rw [List.map_cons] at w
    cases w with
    | cons a b =>
      cases a
      exact .cons _ _ (ih _ b)
theorem script_of {l : OpenLaw} {n : Nat} (hn : l.most = some n) {P : Params} {h : Heap} {args : List WData} {vals : List Value}
    (hpre : l.row.toRowW.claim.pre args = true) (hwl : WellAll P h vals args) :
    ∃ a vs ns, vals = [Value.ref a] ∧ args = [WData.list (ns.map WData.int)] ∧ h.get? a = some { cls := .type "list", data := .seq vs.toArray } ∧ IntsAre vs ns ∧ ns.length ≤ n := by
  have hsh : WShape.hasAll [] args [.list .int] = true := (pre_splitW hpre).1
  have hc : l.pre.holds [] { args := args } = true := (pre_splitW hpre).2
  obtain ⟨d, r, rfl, h1, h2⟩ := hasAllW_cons hsh
  obtain rfl := hasAllW_nil h2
  obtain ⟨xs, rfl, h3⟩ := hasW_list h1
  obtain ⟨ns, rfl⟩ := items_int h3
  have hlen : ns.length ≤ n := by
    unfold OpenLaw.pre at hc
    have h4 : (WTm.not (.lt (.lit (.int (n : Int))) (.len (.arg 0)))).holds [] { args := [.list (ns.map .int)] } = true := by
      have h4 := (holds_andW hc).1
      rw [hn] at h4
      exact h4
    have h5 := condW_of h4 (w_not (w_lt w_lit (w_len_list (w_arg rfl))))
    rw [List.length_map] at h5
    refine Nat.le_of_not_lt fun q => ?_
    have q' : (n : Int) < ((ns.length : Nat) : Int) := by omega
    first
      | (rw [decide_eq_true q'] at h5; exact absurd h5 (by decide))
      | (simp at h5; omega)
  cases hwl with
  | cons w1 w2 =>
    cases w2
    cases w1 with
    | list ho hall => exact ⟨_, _, ns, rfl, rfl, ho, ints_of_wellAll ns _ hall, hlen⟩
theorem post_true (l : OpenLaw) (args : List WData) : l.row.toRowW.claim.post args (.bool true) args = true :=
  postW_of (r := l.row.toRowW) (X := (true == true))
    (show WShape.has [] (.bool true) .bool = true by first | rfl | decide | simp [WShape.has, WShape.arms, WShape.armsAll])
    (show (WTm.eq .res (.lit (.bool true))).value [] { args := args, res := some (.bool true), after := args } = some (.bool (true == true)) from w_eq_bool (w_res rfl) w_lit) rfl
theorem attach_call {l : OpenLaw} {n : Nat} {q : Program} {loose : List Str} {XP : (Str → Option Value) → Heap → Prop} {YP : World → Heap → Prop} {d : DefRec}
    (hn : l.most = some n) (hdf : d.params.defaults = [])
    (call : ∀ (w : World) (s₀ s₁ : Shared) (mg mb : Str → Option Value) (fa : Addr) (o : Obj) (pm cd doc : Value) (a : Addr) (vs : List Value) (ns : List Int),
      Ground q loose [] XP w s₀ mg mb s₁.heap → YP w s₁.heap →
      s₁.heap.get? fa = some o → o.data = .func (docDef d.name d.params d.body d.scope pm cd doc) → s₁.heap.CodeRec cd d.name → mg d.name = some (.ref fa) →
      s₁.heap.get? a = some { cls := .type "list", data := .seq vs.toArray } → IntsAre vs ns → ns.length ≤ n → s₁.gens = #[] →
      codeAny (model l.prog w) callerA (.call (.ref fa) ⟨[.ref a], []⟩) (fun r s' => r = .ok (.ret (.bool true)) ∧ OldK s₁.heap s'.heap ∧ s'.os = s₁.os ∧ AllBare s'.gens) s₁) :
    WalkO q loose XP YP l.row.toRowW d [] (fun f vs => PySem.call f vs) := by
  intro w s₀ s₁ mg mb G Y fa o pm cd doc dV kV ho hd hcd hD hmg hg args vals as hpre hlay hrd hwl hlo
  obtain rfl : dV = .none := Dflts.none hD hdf
  obtain rfl : kV = .none := Dflts.noKw hD
  obtain ⟨a, vs, ns, rfl, rfl, hobj, hints, hlen⟩ := script_of hn hpre hwl
  refine enter_call (codeAny_mono (call w s₀ s₁ mg mb fa o pm cd doc a vs ns G Y ho (fd_plain hd) hcd hmg hobj hints hlen hg) fun r s' hq => ?_)
  obtain ⟨rfl, h2, h3, h4⟩ := hq
  exact ⟨.inl ⟨.bool true, .bool true, [], rfl, fun _ => rfl, .bool true, post_true l _, fun _ => ⟨List.Pairwise.nil, fun _ hm => (nomatch hm)⟩⟩, h2, h3, h4⟩
section
variable {prog : Program} {w : World} {A : Around} {E : Value → Shared → Prop} {s : Shared} {K : Frag}
noncomputable def ledger (h : Heap) (L d : Addr) : List (Addr × Obj) := (List.range h.objs.size).filterMap fun a => if a = L ∨ a = d then none else (h.get? a).map fun o => (a, o)
end
end Att
namespace L2
open PySem PySem.Spec PyProof.Rows
theorem vals_ints : ∀ {vs : List Value} {ns : List Int}, IntsAre vs ns → Vals (ns.map V.int) vs
  | _, _, .nil => .nil
  | _, _, .cons n t h => .cons ⟨t, rfl⟩ (vals_ints h)
end L2
namespace L2
open PySem PySem.Spec PyProof.Rows
end L2
namespace L2
open PySem PySem.Spec PyProof.Rows
noncomputable def defArgs (s : Stmt) : Arguments := match s with
  | .FunctionDef _ a _ _ _ _ _ _ _ _ => a
  | _ => { posonlyargs := [], args := [], vararg := none, kwonlyargs := [], kw_defaults := [], kwarg := none, defaults := [] }
noncomputable def defBody (s : Stmt) : List Stmt := match s with
  | .FunctionDef _ _ b _ _ _ _ _ _ _ => b
  | _ => []
noncomputable def defScope (s : Stmt) : Scope := match s with
  | .FunctionDef _ _ _ _ _ _ sc _ _ _ => sc
  | _ => { kind := .function, names := [], isGenerator := false, isCoroutine := false }
noncomputable abbrev CX0 : CXT := fun _ _ _ _ _ _ => False
noncomputable abbrev E0 : XK := fun _ _ _ => False
theorem pass0 {X : Cx} : Passes CX0 X E0 := fun _ _ _ _ _ _ _ h => h.elim
structure Fun (K : PySem.W.Frag) (x qual : Str) (st : Stmt) (f : Addr) (fd : FuncData) : Prop where
  ex : ∃ (oc : Value) (od : Option Addr) (kV doc pm : Value) (an : Option Addr) (cdv ct : Value) (osl : Array (Option Value)),
    fd = PySem.W.fnOf x qual (defArgs st) (defBody st) (defScope st) .none kV doc pm an cdv ct ∧ K.lookup f = some ⟨oc, od, .func fd, osl⟩ ∧ PySem.W.codeIn K cdv qual = true
  kp : PySem.W.keepIn K (.ref f) = true
section
variable {P : Program} {w : World} {K : PySem.W.Frag} {mg : Str → Option Value} {base : Heap}
theorem Fun.ok {x qual : Str} {st : Stmt} {f : Addr} {fd : FuncData} {N ps : List Str} {k : Nat} {sp : Sp} (F : Fun K x qual st f fd) (S : FnScope N ps (defScope st)) (len : ∀ vs H Q E, sp vs H Q E → vs.length = ps.length)
    (hbody : ∀ (cdv : Value) (A : Around) (outer : List Env) (s : Shared) (H : Hp) (vs : List V) (Q : VK) (E : XK), Room k (A.deeper (envOfC qual (defScope st) s.heap.objs.size f cdv)) → sp vs H Q E →
      ∃ t, PSs (cxOf CX0 P w K mg base N qual (defScope st) f cdv A outer s H E).nox (defBody st) t ∧ t { nx := fun _ H' => Q .non H', rt := Q } (start N vs) H) : FnOk P w K mg base CX0 (k + 1) f fd ps sp := by
  obtain ⟨oc, od, kV, doc, pm, an, cdv, ct, osl, rfl, lk, hcd⟩ := F.ex
  refine fn_of lk hcd S len fun A outer s H vs Q E hr hsp => ?_
  obtain ⟨t, h, q⟩ := hbody cdv A outer s H vs Q E hr hsp
  exact ⟨t, h.nox, q⟩
theorem Fun.binds {x qual : Str} {st : Stmt} {f : Addr} {fd : FuncData} {ps : List Str} (F : Fun K x qual st f fd)
    (h : ∀ (kV doc pm : Value) (an : Option Addr) (cdv ct : Value) (us : List Value), us.length = ps.length → bindArgs (PySem.W.fnOf x qual (defArgs st) (defBody st) (defScope st) .none kV doc pm an cdv ct) ⟨us, []⟩ = pure (ps.zip us)) : Binds K fd ps [] := by
  obtain ⟨oc, od, kV, doc, pm, an, cdv, ct, osl, rfl, lk, hcd⟩ := F.ex
  exact .all (h kV doc pm an cdv ct)
theorem fun_mk {x qual : Str} {st : Stmt} {f : Addr} {oc : Value} {od an : Option Addr} {osl : Array (Option Value)} {kV doc pm cdv ct : Value} (l : K.lookup f = some ⟨oc, od, .func (PySem.W.fnOf x qual (defArgs st) (defBody st) (defScope st) .none kV doc pm an cdv ct), osl⟩)
    (c : PySem.W.codeIn K cdv qual = true) (k : PySem.W.keepIn K (.ref f) = true) : Fun K x qual st f (PySem.W.fnOf x qual (defArgs st) (defBody st) (defScope st) .none kV doc pm an cdv ct) := ⟨⟨oc, od, kV, doc, pm, an, cdv, ct, osl, rfl, l, c⟩, k⟩
end
theorem hu_of {A : Around} {k : Nat} (hr : Room k A) : A.units + 1 < cLine := Nat.lt_of_le_of_lt (Nat.add_le_add_left (by decide : 1 ≤ 64) _) hr.units
theorem small1000 {n : Nat} (h : n ≤ 1000) : n < sizeLine := Nat.lt_of_le_of_lt h (by decide)
section
variable {X : Cx}
theorem pv (i : Nat) {x : Str} {pos : Pos} (hN : X.N[i]? = some x := by rfl) (hv : Vis X.env.scope x := by first | exact Or.inl rfl | exact Or.inr (Or.inl rfl) | exact Or.inr (Or.inr rfl)) (hd : (x == ("__debug__" : Str)) = false := by decide)
    (hcd : (x == ("__classdict__" : Str)) = false := by decide) : PE X (.Name x pos) (tVar i) := pe_var hN hv hd hcd
end
theorem iteF {A B : Prop} (h : B) : if false = true then A else B := by
  rw [if_neg Bool.false_ne_true]
  exact h
theorem iteT {A B : Prop} (h : A) : if true = true then A else B := by
  rw [if_pos rfl]
  exact h
theorem iteNS {c A B : Prop} [Decidable c] (hc : c) (h : B) : if (!decide c) = true then A else B := by
  rw [decide_eq_true hc]
  exact iteF h
noncomputable def Same (H H' : Hp) : Prop := ∀ b o, H b = some o → H' b = some o
theorem Same.refl (H : Hp) : Same H H := fun _ _ h => h
theorem Same.trans {H H1 H2 : Hp} (a : Same H H1) (b : Same H1 H2) : Same H H2 := fun c o h => b c o (a c o h)
theorem Same.seq {K : PySem.W.Frag} {H H' : Hp} {a : Addr} {xs : List V} (e : Same H H') (h : SqL K H a xs) : SqL K H' a xs := by
  rcases h with (h | ⟨o, h⟩) | h
  · exact .inl (.inl (e _ _ h))
  · exact .inl (.inr ⟨o, e _ _ h⟩)
  · exact .inr h
end L2
namespace L2
open PySem PySem.Spec PyProof.Rows
section
variable {κ : Type} [DecidableEq κ]
noncomputable def valV (kvs : List (κ × V)) (k : κ) : Option V := (kvs.find? fun kv => decide (kv.1 = k)).map (·.2)
noncomputable def putK (kvs : List (κ × V)) (k : κ) (v : V) : List (κ × V) :=
  if (kvs.any fun kv => decide (kv.1 = k)) = true then kvs.map (fun kv => if kv.1 = k then (kv.1, v) else kv) else kvs ++ [(k, v)]
theorem valV_pos {p : κ × V} {r : List (κ × V)} {k : κ} (e : p.1 = k) : valV (p :: r) k = some p.2 := by simp [valV, List.find?_cons, e]
theorem valV_neg {p : κ × V} {r : List (κ × V)} {k : κ} (e : ¬ p.1 = k) : valV (p :: r) k = valV r k := by simp [valV, List.find?_cons, e]
theorem valV_any (k : κ) : ∀ kvs : List (κ × V), (kvs.any fun kv => decide (kv.1 = k)) = (valV kvs k).isSome
  | [] => rfl
  | p :: r => by
    rw [List.any_cons]
    by_cases e : p.1 = k
    · simp only [valV_pos e, decide_eq_true e, Bool.true_or, Option.isSome_some]
    · rw [valV_neg e, decide_eq_false e, Bool.false_or]; exact valV_any k r
theorem length_putK (kvs : List (κ × V)) (k : κ) (v : V) : (putK kvs k v).length ≤ kvs.length + 1 := by
  unfold putK
  split
  · rw [List.length_map]; omega
  · rw [List.length_append, List.length_cons, List.length_nil]; omega
theorem RelO.isSome_eq {o : Option V} {u : Option Value} (r : RelO o u) : o.isSome = u.isSome := by
  cases o with
  | none => cases u with
    | none => rfl
    | some _ => exact (show False from r).elim
  | some _ => cases u with
    | none => exact (show False from r).elim
    | some _ => rfl
theorem KV.any {kvs : List (κ × V)} {vs : List (κ × Value)} (r : KV kvs vs) (k : κ) : (kvs.any fun kv => decide (kv.1 = k)) = vs.any fun kv => decide (kv.1 = k) := by
  unfold KV at r
  induction r with
  | nil => rfl
  | cons h t ih => rw [List.any_cons, List.any_cons, ih, h.1]
theorem KV.repl {kvs : List (κ × V)} {vs : List (κ × Value)} (r : KV kvs vs) (k : κ) {y : V} {u : Value} (ry : RelV y u) :
    KV (kvs.map fun kv => if kv.1 = k then (kv.1, y) else kv) (vs.map fun kv => if kv.1 = k then (kv.1, u) else kv) := by
  unfold KV at r ⊢
  induction r with
  | nil => exact .nil
  | @cons p q ps qs h t ih =>
    rw [List.map_cons, List.map_cons]
    refine .cons ?_ ih
    obtain ⟨h1, h2⟩ := h
    by_cases e : p.1 = k
    · rw [if_pos e, if_pos (h1.symm.trans e)]; exact ⟨h1, ry⟩
    · rw [if_neg e, if_neg (fun z => e (h1.trans z))]; exact ⟨h1, h2⟩
theorem KV.put {kvs : List (κ × V)} {vs : List (κ × Value)} (r : KV kvs vs) (k : κ) {y : V} {u : Value} (ry : RelV y u) : KV (putK kvs k y) (stored vs k u) := by
  unfold putK stored
  rw [r.any k]
  by_cases e : (vs.any fun kv => decide (kv.1 = k)) = true
  · rw [if_pos e, if_pos e]; exact r.repl k ry
  · rw [if_neg e, if_neg e]; exact Paired.snoc r ⟨rfl, ry⟩
theorem KV.length {kvs : List (κ × V)} {vs : List (κ × Value)} (r : KV kvs vs) : kvs.length = vs.length := Paired.length r
end
theorem kV_is {P : Program} {w : World} {k : Key} {u : Value} (r : RelV (kV k) u) : (mixKind P w).is k u = true := by
  cases k with
  | inl i => obtain ⟨t, e⟩ := (show ∃ t, u = Value.int i t from r); subst e; exact mixKind_int P w i t
  | inr x => obtain ⟨t, e⟩ := (show ∃ t, u = Value.str x t from r); subst e; exact mixKind_str P w x t
theorem items_are {P : Program} {w : World} : ∀ {ks : List Key} {us : List Value}, Vals (ks.map kV) us → ItemsAre (mixKind P w) ks us
  | [], _, r => by rw [List.map_nil] at r; cases r; exact .nil
  | k :: ks, _, r => by
    rw [List.map_cons] at r
    cases r with
    | cons h t => exact .cons (kV_is h) (items_are t)
noncomputable abbrev KT (H : Hp) : List (List Key × V) → List (List Key × Addr × Value) → Prop := Paired fun p q => p.1 = q.1 ∧ H q.2.1 = some (.tup (p.1.map kV)) ∧ RelV p.2 q.2.2
theorem KT.val {H : Hp} {kvs : List (List Key × V)} {xs : List (List Key × Addr × Value)} (r : KT H kvs xs) (k : List Key) : RelO (valV kvs k) ((atKey xs k).map (·.2)) := by
  induction r with
  | nil => exact True.intro
  | @cons p q ps qs h t ih =>
    obtain ⟨h1, _, h2⟩ := h
    by_cases e : p.1 = k
    · have e' : q.1 = k := h1.symm.trans e
      have b : atKey (q :: qs) k = some q.2 := by simp [atKey, List.find?_cons, e']
      rw [valV_pos e, b]; exact h2
    · have e' : ¬ q.1 = k := fun z => e (h1.trans z)
      have b : atKey (q :: qs) k = atKey qs k := by simp [atKey, List.find?_cons, e']
      rw [valV_neg e, b]; exact ih
theorem KT.repl {H : Hp} {kvs : List (List Key × V)} {xs : List (List Key × Addr × Value)} (r : KT H kvs xs) (k : List Key) {y : V} {u : Value} (ry : RelV y u) :
    KT H (kvs.map fun kv => if kv.1 = k then (kv.1, y) else kv) (xs.map (putAt k u)) := by
  induction r with
  | nil => exact .nil
  | @cons p q ps qs h t ih =>
    rw [List.map_cons, List.map_cons]
    refine .cons ?_ ih
    obtain ⟨h1, h2, h3⟩ := h
    unfold putAt
    by_cases e : p.1 = k
    · rw [if_pos e, if_pos (h1.symm.trans e)]; exact ⟨h1, h2, ry⟩
    · rw [if_neg e, if_neg (fun z => e (h1.trans z))]; exact ⟨h1, h2, h3⟩
theorem KT.put {H : Hp} {kvs : List (List Key × V)} {xs : List (List Key × Addr × Value)} (r : KT H kvs xs) (k : List Key) {b : Addr} {y : V} {u : Value} (hb : H b = some (.tup (k.map kV))) (ry : RelV y u) :
    KT H (putK kvs k y) (storedH xs k b u) := by
  have e : (kvs.any fun kv => decide (kv.1 = k)) = (atKey xs k).isSome := by
    rw [valV_any, (r.val k).isSome_eq, Option.isSome_map]
  unfold putK storedH
  rw [e]
  by_cases q : (atKey xs k).isSome = true
  · rw [if_pos q, if_pos q]; exact r.repl k ry
  · rw [if_neg q, if_neg q]; exact Paired.snoc r ⟨rfl, hb, ry⟩
theorem KT.keeps {H H' : Hp} {kvs : List (List Key × V)} {xs : List (List Key × Addr × Value)} (r : KT H kvs xs) (ht : ∀ b ys, H b = some (.tup ys) → H' b = some (.tup ys)) : KT H' kvs xs :=
  Paired.mapP r fun _ _ z => ⟨z.1, ht _ _ z.2.1, z.2.2⟩
section
variable {P : Program} {w : World} {H : Hp} {h : Heap} {a : Addr}
theorem rd_of {u : HO} (ok : HOk P w H h) (e : Rd H a u) : ObjOk P w H h a u := e.ok ok
theorem dk_rd {kvs : List (Key × V)} (ok : HOk P w H h) (e : Rd H a (.dK kvs)) : kvs.length ≤ sizeLine ∧ (a == sysModules) = false ∧ ∃ vs, KV kvs vs ∧ h.DictOf (mixKind P w) a vs :=
  show ObjOk P w H h a (.dK kvs) from rd_of ok e
theorem dk_of {kvs : List (Key × V)} (ok : HOk P w H h) (e : H a = some (.dK kvs)) : kvs.length ≤ sizeLine ∧ (a == sysModules) = false ∧ ∃ vs, KV kvs vs ∧ h.DictOf (mixKind P w) a vs := dk_rd ok (.inl e)
theorem key_of {ks : List Key} (ok : HOk P w H h) (e : H a = some (.tup (ks.map kV))) : (tupleKind (mixKind P w)).is h ks a := by
  obtain ⟨_, its, r, o, h1, h2, n, h3⟩ := (show ObjOk P w H h a (.tup (ks.map kV)) from ok a _ e)
  exact ⟨o, its.toArray, n, h1, h2, h3, by simpa using items_are r⟩
theorem dt_rd {kvs : List (List Key × V)} (ok : HOk P w H h) (e : Rd H a (.dT kvs)) : kvs.length ≤ sizeLine ∧ (a == sysModules) = false ∧
    ∃ xs, KT H kvs xs ∧ h.DictOfH (tupleKind (mixKind P w)) a xs := by
  obtain ⟨z, y, xs, r, o, es, ep, h1, h2, h3, h4, h5⟩ := (show ObjOk P w H h a (.dT kvs) from rd_of ok e)
  refine ⟨z, y, xs, r, o, es, ep, h1, h2, h3, h4, fun x hx => ?_, h5⟩
  have all : ∀ {l : List (List Key × V)} {m : List (List Key × Addr × Value)}, KT H l m → ∀ x ∈ m, (tupleKind (mixKind P w)).is h x.1 x.2.1 := by
    intro l m q
    induction q with
    | nil => intro x hx; exact nomatch hx
    | @cons p q ps qs hq t ih =>
      intro x hx
      rcases List.mem_cons.mp hx with e | hx
      · subst e
        exact key_of ok (by rw [← hq.1]; exact hq.2.1)
      · exact ih x hx
  exact all r x hx
theorem dt_of {kvs : List (List Key × V)} (ok : HOk P w H h) (e : H a = some (.dT kvs)) : kvs.length ≤ sizeLine ∧ (a == sysModules) = false ∧
    ∃ xs, KT H kvs xs ∧ h.DictOfH (tupleKind (mixKind P w)) a xs := dt_rd ok (.inl e)
end
noncomputable def DPut (H : Hp) (a : Addr) (y v : V) (H' : Hp) : Prop :=
  (∃ kvs k, H a = some (.dK kvs) ∧ y = kV k ∧ kvs.length < sizeLine ∧ H' = upd H a (.dK (putK kvs k v))) ∨
  ∃ kvs k b, H a = some (.dT kvs) ∧ y = .ref b ∧ H b = some (.tup (k.map kV)) ∧ kvs.length < sizeLine ∧ H' = upd H a (.dT (putK kvs k v))
theorem DPut.t {H : Hp} {a b : Addr} {kvs : List (List Key × V)} {k : List Key} {v : V} (e : H a = some (.dT kvs)) (eb : H b = some (.tup (k.map kV))) (hl : kvs.length < sizeLine) :
    DPut H a (.ref b) v (upd H a (.dT (putK kvs k v))) := .inr ⟨kvs, k, b, e, rfl, eb, hl, rfl⟩
section
variable {X : Cx} {pins : List (Addr × Obj)} {σ : St} {H : Hp} {s : Shared} {a : Addr} {y v : V} {u r : Value} {o : Option V} {A : Around} {E : Value → Shared → Prop}
theorem Inv.big (I : Inv X pins σ H s) : sysModules < s.heap.objs.size := by
  have h : mainGlobals < s.heap.objs.size := (I.mod.glob.keeps I.bk).lt
  exact Nat.lt_trans (by decide) h
theorem d_write {h' : Heap} {t' : Nat} {ob : HO} (I : Inv X pins σ H s) (mu : Mut (H a)) (hs : Heap.SameBut a s.heap h') (he : ∃ q, h'.get? a = some q) (new : ObjOk X.prog X.w (upd H a ob) h' a ob) :
    Inv X pins σ (upd H a ob) { s with heap := h', toks := t' } :=
  I.write (x := a) (e := a) mu (.inl rfl) (fun b q hb z => (hs.2 b hb).trans z) he new
theorem dk_new {P : Program} {w : World} {H' : Hp} {h' : Heap} {kvs : List (Key × V)} {vs : List (Key × Value)} (z : kvs.length ≤ sizeLine) (hd : (a == sysModules) = false) (rel : KV kvs vs) (dd : h'.DictOf (mixKind P w) a vs) :
    ObjOk P w H' h' a (.dK kvs) := ⟨z, hd, vs, rel, dd⟩
theorem d_setItem {H' : Hp} {Q : Unit → Shared → Prop} (hu : A.units + 1 < cLine) (I : Inv X pins σ H s) (g : DPut H a y v H') (ry : RelV y u) (rv : RelV v r) (h : ∀ s', Inv X pins σ H' s' → Q () s') :
    wpAny (model X.prog X.w) A (setItem (.ref a) u r) Q E s := by
  rcases g with ⟨kvs, k, e, ey, l, eH⟩ | ⟨kvs, k, b, e, ey, eb, l, eH⟩
  · subst ey eH
    obtain ⟨z, hd, vs, rel, dd⟩ := dk_of I.hok e
    have hz : vs.length ≤ sizeLine := by rw [← rel.length]; exact z
    have hl : (putK kvs k v).length ≤ sizeLine := by have := length_putK kvs k v; omega
    refine wpAny_setItem_pairs (hsz := hz) (kV_is ry) dd fun h' dd' hs => h _ ?_
    have he : ∃ q, h'.get? a = some q := let ⟨q, _, _, hq, _⟩ := dd'; ⟨q, hq⟩
    exact d_write I (by rw [e]; exact True.intro) hs he (dk_new hl hd (rel.put k rv) dd')
  · subst ey eH
    cases (show u = Value.ref b from ry)
    obtain ⟨z, hd, xs, rel, dd⟩ := dt_of I.hok e
    have hz : xs.length ≤ sizeLine := by rw [← Paired.length rel]; exact z
    have hl : (putK kvs k v).length ≤ sizeLine := by have := length_putK kvs k v; omega
    refine wpAny_setItem_heap (hsz := hz) (tupleKind_room_in1 hu) (key_of I.hok eb) dd fun h' dd' hs => h _ ?_
    obtain ⟨q, es, ep, hq, h2, h3, h4, _, h5⟩ := dd'
    refine d_write I (by rw [e]; exact True.intro) hs ⟨q, hq⟩ ⟨hl, hd, _, (rel.put k eb rv).keeps fun c ys ec => ?_, q, es, ep, hq, h2, h3, h4, h5⟩
    rw [upd_ne (ne_of ec e (fun z => nomatch z))]
    exact ec
end
section
variable {X : Cx} {pins : List (Addr × Obj)} {σ : St} {H : Hp} {s : Shared} {a : Addr} {kvs : List (Key × V)} {k : Key} {u : Value} {A : Around} {E : Value → Shared → Prop}
end
noncomputable def sDPut (td ty tv : TE) : TS := fun D σ H => tv σ H fun v H1 => td σ H1 fun x H2 => ty σ H2 fun y H3 => ∃ a H4, x = .ref a ∧ DPut H3 a y v H4 ∧ D.nx σ H4
section
variable {X : Cx} {o i e value : Expr} {pos pos' tpos : Pos} {td ty tv : TE}
theorem ps_dput (hu : X.A.units + 1 < cLine) (ho : PE X o td) (hi : PE X i ty) (hv : PE X value tv) (hs : swapsWith value (some (.Subscript o i pos')) pos.line X.env = pure false) :
    PS X (.Assign [.Subscript o i pos'] value pos) (sDPut td ty tv) := by
  intro pins s σ H D I h
  refine wpAny_Assign_Subscript (thn (hv pins s σ H _ I h) fun r s1 ⟨v, H1, I1, rv, q1⟩ => thn (ho pins s1 σ H1 _ I1 q1) fun u s2 ⟨x, H2, I2, rx, q2⟩ => thn (hi pins s2 σ H2 _ I2 q2) fun iv s3 ⟨y, H3, I3, ry, a, H4, ex, g, q3⟩ => ?_) hs
  subst ex
  obtain rfl : u = Value.ref a := rx
  exact d_setItem hu I3 g ry rv fun s4 I4 => ⟨σ, H4, I4, q3⟩
end
theorem dt_empty {P : Program} {w : World} {H : Hp} (h : Heap) (hb : sysModules < h.objs.size) : ObjOk P w H (h.push { cls := .type "dict", data := .dict #[] }) h.objs.size (.dT []) :=
  ⟨Nat.zero_le _, beq_eq_false_iff_ne.mpr (Ne.symm (Nat.ne_of_lt hb)), [], .nil, _, #[], 0, Heap.get?_push_size _ rfl, ⟨rfl, rfl, rfl⟩, rfl, rfl, List.nodup_nil⟩
noncomputable def tDNewT : TE := fun _ H Q => ∀ p, H p = none → Q (.ref p) (upd H p (.dT []))
section
variable {X : Cx} {pos : Pos}
theorem pe_dnewT : PE X (.Dict [] [] pos) tDNewT := fun pins s σ H Q I h =>
  wpAny_Dict_empty ⟨.ref s.heap.objs.size, _, I.laid (a := s.heap.objs.size) (o := .dT []) (t' := s.toks) (fun _ _ q => Heap.get?_push_of_some _ q) (Nat.le_refl _) (dt_empty s.heap I.big), rfl, h _ (I.hok.fresh (Nat.le_refl _))⟩
end
end L2
set_option maxHeartbeats 4000000
namespace L2
open PySem PySem.Spec PyProof.Rows
structure CompZ where
  cl : List (Str × Addr)
  C : Addr
  s : Shared
  H : Hp
  fp : List Addr
  pn : List (Addr × Obj)
noncomputable def compCx (X : Cx) (N : List Str) (scope : Scope) (Z : CompZ) : Cx where
  prog := X.prog
  w := X.w
  K := X.K
  mg := X.mg
  base := X.base
  A := X.A
  N := N
  s₀ := Z.s
  H₀ := Z.H
  env := compEnvC scope Z.cl Z.C X.env
  outer := X.stack
  stack := X.stack
  ex := Z.fp
  fn := fun _ => false
  calm := X.calm
  pn := Z.pn
  xe := fun _ _ => False
noncomputable def CompOk (ns : List (Str × NameKind)) (N : List Str) (scope : Scope) (frees : List (Str × Nat)) : Prop :=
  (∀ x ∈ scope.names, x.2 ≠ .cell ∧ (x.2 = .local → scope.names.lookup x.1 = some .local) ∧ (x.2 = .free → ns.lookup x.1 = some .cell ∨ ns.lookup x.1 = some .free)) ∧
  ∀ p ∈ frees, N[p.2]? = some p.1 ∧ scope.names.lookup p.1 = some .free ∧ (ns.lookup p.1 = some .cell ∨ ns.lookup p.1 = some .free)
instance (ns : List (Str × NameKind)) (N : List Str) (scope : Scope) (frees : List (Str × Nat)) : Decidable (CompOk ns N scope frees) := by unfold CompOk; infer_instance
noncomputable def σC (n : Nat) (frees : List (Str × Nat)) (σ : St) : St := List.replicate n none ++ frees.map fun p => (σ[p.2]?).join
theorem clos_ok {env : Env} {scope : Scope} (hf : ∀ x ∈ scope.names, x.2 = .free → ∃ c, env.cells.lookup x.1 = some c) :
    ∃ cl, closureFor scope env = pure cl ∧ (∀ x c, cl.lookup x = some c → env.cells.lookup x = some c) ∧ ∀ x, (x, NameKind.free) ∈ scope.names → ∃ c, cl.lookup x = some c := by
  have go : ∀ (names : List (Str × NameKind)) (cs : List (Str × Addr)), (∀ x ∈ names, x.2 = .free → ∃ c, env.cells.lookup x.1 = some c) → (∀ x c, cs.lookup x = some c → env.cells.lookup x = some c) →
      ∃ cl, (forIn names cs (fun (x : Str × NameKind) (r : List (Str × Addr)) => (if (x.2 == NameKind.free) = true then (do let a ← cellOf env x.1; pure (ForInStep.yield ((x.1, a) :: r))) else pure (ForInStep.yield r) : Sem (ForInStep (List (Str × Addr)))))) = pure cl ∧
        (∀ x c, cl.lookup x = some c → env.cells.lookup x = some c) ∧ (∀ x c, cs.lookup x = some c → ∃ c', cl.lookup x = some c') ∧ ∀ x, (x, NameKind.free) ∈ names → ∃ c, cl.lookup x = some c := by
    intro names
    induction names with
    | nil => intro cs _ h; exact ⟨cs, rfl, h, fun x c e => ⟨c, e⟩, fun x hx => nomatch hx⟩
    | cons y r ih =>
      intro cs hf h
      obtain ⟨n, k⟩ := y
      have hr : ∀ x ∈ r, x.2 = .free → ∃ c, env.cells.lookup x.1 = some c := fun x hx => hf x (List.mem_cons_of_mem _ hx)
      by_cases hk : k = .free
      · subst hk
        obtain ⟨c, hc⟩ := hf (n, .free) List.mem_cons_self rfl
        have h2 : ∀ x c', ((n, c) :: cs).lookup x = some c' → env.cells.lookup x = some c' := fun x c' e => by
          rw [List.lookup_cons] at e
          cases hx : x == n with
          | true =>
            rw [hx] at e
            have : x = n := eq_of_beq hx
            cases e
            rw [this]; exact hc
          | false => rw [hx] at e; exact h x c' e
        obtain ⟨cl, e1, e2, e3, e4⟩ := ih ((n, c) :: cs) hr h2
        refine ⟨cl, ?_, e2, fun x c' e => ?_, fun x hx => ?_⟩
        · rw [List.forIn_cons]
          have : cellOf env n = pure c := by unfold cellOf; rw [hc]
          simp only [beq_self_eq_true, if_true, this, pure_bind]
          exact e1
        · cases hx : x == n with
          | true => exact e3 x c (by rw [List.lookup_cons, hx])
          | false => exact e3 x c' (by rw [List.lookup_cons, hx]; exact e)
        · rcases List.mem_cons.mp hx with z | z
          · cases z
            exact e3 n c (by rw [List.lookup_cons, beq_self_eq_true])
          · exact e4 x z
      · obtain ⟨cl, e1, e2, e3, e4⟩ := ih cs hr h
        refine ⟨cl, ?_, e2, e3, fun x hx => ?_⟩
        · rw [List.forIn_cons]
          have hb : (k == NameKind.free) = false := by simpa using hk
          simp only [hb, Bool.false_eq_true, if_false, pure_bind]
          exact e1
        · rcases List.mem_cons.mp hx with z | z
          · cases z; exact absurd rfl hk
          · exact e4 x z
  obtain ⟨cl, e1, e2, _, e4⟩ := go scope.names [] hf (fun x c e => by simp at e)
  refine ⟨cl, ?_, e2, e4⟩
  unfold closureFor
  first
    | (rw [e1]; rfl)
    | (simp only [e1]; rfl)
    | simp [e1]
theorem relabel_free {env : Env} : ∀ {names : List (Str × NameKind)} {x : Str}, names.lookup x = some .free →
    (names.map fun (n, k) => if (k == NameKind.free && env.scope.kind == .function && env.kindOf n == some .cell) then (n, NameKind.cell) else (n, k)).lookup x = some .cell ∨
    (names.map fun (n, k) => if (k == NameKind.free && env.scope.kind == .function && env.kindOf n == some .cell) then (n, NameKind.cell) else (n, k)).lookup x = some .free
  | [], _, h => by simp at h
  | (n, k) :: r, x, h => by
    have ih := @relabel_free env r x
    show List.lookup x ((if (k == NameKind.free && env.scope.kind == .function && env.kindOf n == some .cell) = true then (n, NameKind.cell) else (n, k)) :: _) = _ ∨ List.lookup x ((if (k == NameKind.free && env.scope.kind == .function && env.kindOf n == some .cell) = true then (n, NameKind.cell) else (n, k)) :: _) = _
    cases hx : x == n with
    | true =>
      simp only [List.lookup_cons, hx] at h
      cases h
      by_cases hc : (NameKind.free == NameKind.free && env.scope.kind == .function && env.kindOf n == some .cell) = true
      · rw [if_pos hc]; left; rw [List.lookup_cons, hx]
      · rw [if_neg hc]; right; rw [List.lookup_cons, hx]
    | false =>
      simp only [List.lookup_cons, hx] at h
      by_cases hc : (k == NameKind.free && env.scope.kind == .function && env.kindOf n == some .cell) = true
      · rw [if_pos hc]; simp only [List.lookup_cons, hx]; exact ih h
      · rw [if_neg hc]; simp only [List.lookup_cons, hx]; exact ih h
theorem relabel_back {env : Env} : ∀ {names : List (Str × NameKind)} {x : Str}, 
    ((names.map fun (n, k) => if (k == NameKind.free && env.scope.kind == .function && env.kindOf n == some .cell) then (n, NameKind.cell) else (n, k)).lookup x = some .cell ∨
     (names.map fun (n, k) => if (k == NameKind.free && env.scope.kind == .function && env.kindOf n == some .cell) then (n, NameKind.cell) else (n, k)).lookup x = some .free) →
    (x, NameKind.free) ∈ names ∨ (x, NameKind.cell) ∈ names
  | [], _, h => by simp at h
  | (n, k) :: r, x, h => by
    have ih := @relabel_back env r x
    replace h : List.lookup x ((if (k == NameKind.free && env.scope.kind == .function && env.kindOf n == some .cell) = true then (n, NameKind.cell) else (n, k)) :: _) = _ ∨ List.lookup x ((if (k == NameKind.free && env.scope.kind == .function && env.kindOf n == some .cell) = true then (n, NameKind.cell) else (n, k)) :: _) = _ := h
    cases hx : x == n with
    | true =>
      have e : x = n := eq_of_beq hx
      subst e
      by_cases hc : (k == NameKind.free && env.scope.kind == .function && env.kindOf x == some .cell) = true
      · have : k = .free := by
          simp only [Bool.and_eq_true] at hc
          exact eq_of_beq hc.1.1
        subst this
        exact .inl List.mem_cons_self
      · rw [if_neg hc] at h
        simp only [List.lookup_cons, hx, Option.some.injEq] at h
        rcases h with h | h
        · subst h; exact .inr List.mem_cons_self
        · subst h; exact .inl List.mem_cons_self
    | false =>
      have h' : _ := h
      by_cases hc : (k == NameKind.free && env.scope.kind == .function && env.kindOf n == some .cell) = true
      · rw [if_pos hc] at h; simp only [List.lookup_cons, hx] at h
        rcases ih h with z | z
        · exact .inl (List.mem_cons_of_mem _ z)
        · exact .inr (List.mem_cons_of_mem _ z)
      · rw [if_neg hc] at h; simp only [List.lookup_cons, hx] at h
        rcases ih h with z | z
        · exact .inl (List.mem_cons_of_mem _ z)
        · exact .inr (List.mem_cons_of_mem _ z)
section
variable {X : Cx} {pins : List (Addr × Obj)} {σ : St} {H2 : Hp} {s2 : Shared} {scope : Scope} {loc : List Str} {frees : List (Str × Nat)} {ns : List (Str × NameKind)} {N : List Str} {fp : List Addr} {cl : List (Str × Addr)}
theorem comp_start (I2 : Inv X pins σ H2 s2) (hns : X.env.scope.names = ns) (hN : X.N = N) (hk : scope.kind = .function) (ok : CompOk ns N scope frees) (f2 : ∀ b ∈ fp, FpOk X pins H2 b) (hlive : ∀ b ∈ fp, ∃ o, s2.heap.get? b = some o)
    (hc1 : ∀ x c, cl.lookup x = some c → X.env.cells.lookup x = some c) (hc2 : ∀ x, (x, NameKind.free) ∈ scope.names → ∃ c, cl.lookup x = some c)
    {C : Addr} {h4 : Heap} {tk : Nat} (hC : C = s2.heap.objs.size + 1) (hnsC : ∃ m, h4.Ns C m) (hacc : h4.get? s2.heap.objs.size = some { cls := .type "list", dict := none, data := .seq ([] : List Value).toArray })
    (hkeep : ∀ b o, s2.heap.get? b = some o → h4.get? b = some o) :
    Inv (compCx X (loc ++ frees.map (·.1)) scope ⟨cl, C, s2, H2, fp, X.pn ++ pins⟩) [] (σC loc.length frees σ) (upd H2 s2.heap.objs.size (.lst [])) { s2 with heap := h4, toks := tk } := by
  have below : ∀ {b : Addr} {o : Obj}, s2.heap.get? b = some o → b ≠ C := fun {b o} e z => by
    have := Heap.lt_size e
    rw [z, hC] at this
    exact Nat.lt_irrefl _ (Nat.lt_of_succ_lt this)
  have hl : H2 s2.heap.objs.size = none := I2.hok.fresh (Nat.le_refl _)
  have hCn : H2 C = none := I2.hok.fresh (by rw [hC]; exact Nat.le_succ _)
  have cne : ∀ x c, X.env.cells.lookup x = some c → ∃ o v, s2.heap.get? c = some o ∧ o.data = .cell v := fun x c e => by
    obtain ⟨v, o, ho, hd⟩ := I2.cell x c e
    exact ⟨o, v, ho, hd⟩
  obtain ⟨mC, hmC⟩ := hnsC
  have hCl : C ≠ s2.heap.objs.size := by rw [hC]; exact Nat.succ_ne_self _
  refine ⟨⟨I2.ok.mod, hk, I2.ok.glob, I2.ok.blt, ?_, fun x y c h1 h2 => I2.ok.inj x y c (hc1 x c h1) (hc1 y c h2), fun x hx => ?_, fun x c h => (Bool.false_ne_true h).elim, I2.ok.hd, I2.ok.frames, .inl rfl, fun b hb => ⟨?_, fun x c e z => ?_⟩, I2.bs, Nat.le_trans I2.ok.bsz I2.sz, fun b o e hb => ?_, fun b hb hfs => ?_, I2.stack, I2.stkFree⟩,
    rfl, I2.bare, ?_, ⟨mC, hmC, fun i x v h1 h2 h3 => ?_⟩, fun x c e => ?_, ?_, fun x c e => ?_, fun p hp => ?_, ?_, ?_⟩
  · show s2.heap.objs.size ≤ C
    rw [hC]; exact Nat.le_succ _
  · -- has
    have hx' : (relabel scope X.env).names.lookup x = some .cell ∨ (relabel scope X.env).names.lookup x = some .free := hx
    rcases relabel_back hx' with z | z
    · exact hc2 x z
    · exact absurd rfl (ok.1 _ z).1
  · obtain ⟨o, ho⟩ := hlive b hb
    exact below ho
  · exact (f2 b hb).2.2.2.2.1 x c (hc1 x c e) z
  · rcases (f2 b hb).2.2.2.1 with z | z
    · exact I2.ok.noex b o e z
    · exact absurd (Nat.lt_of_lt_of_le (Heap.lt_size (I2.ok.bs b o e).1) z) (Nat.lt_irrefl _)
  · rcases List.mem_cons.mp (I2.stkSub b hfs) with z | z
    · exact (f2 b hb).2.1 z
    · exact (f2 b hb).2.2.1 z
  · exact Un.laid hkeep (Nat.le_refl _) hl
  · -- loc
    have hi : ¬ i < loc.length := fun hlt => by
      unfold σC at h2
      rw [List.getElem?_append_left (by simpa using hlt), List.getElem?_replicate] at h2
      simp [hlt] at h2
    have h2' : (frees[i - loc.length]?).map (fun p => (σ[p.2]?).join) = some (some v) := by
      unfold σC at h2
      rw [List.getElem?_append_right (by simpa using hi), List.length_replicate, List.getElem?_map] at h2
      exact h2
    have h1' : (frees[i - loc.length]?).map (·.1) = some x := by
      have h1 : (loc ++ frees.map (·.1))[i]? = some x := h1
      rw [List.getElem?_append_right (by omega), List.getElem?_map] at h1
      exact h1
    cases ep : frees[i - loc.length]? with
    | none => rw [ep] at h1'; simp at h1'
    | some p =>
      rw [ep] at h1' h2'
      simp only [Option.map_some, Option.some.injEq] at h1' h2'
      obtain ⟨q1, q2, q3⟩ := ok.2 p (List.mem_of_getElem? ep)
      have hσ : σ[p.2]? = some (some v) := by
        cases e : σ[p.2]? with
        | none => rw [e] at h2'; simp at h2'
        | some o => rw [e] at h2'; simp at h2'; rw [h2']
      have vis : Vis X.env.scope p.1 := by
        show _ ∨ _
        rw [hns]; rcases q3 with z | z
        · exact .inr (.inl z)
        · exact .inr (.inr z)
      obtain ⟨m, hn, hlk⟩ := I2.loc
      obtain ⟨u, ru, lk⟩ := hlk p.2 p.1 v (by rw [hN]; exact q1) hσ vis
      refine ⟨u, ru, .inr ?_⟩
      rw [← h1']
      rcases lk with ⟨z, _⟩ | ⟨_, c, ec, hcell⟩
      · have z' : X.env.scope.names.lookup p.1 = some .local := z
        rw [hns] at z'
        rcases q3 with y | y <;> rw [z'] at y <;> cases y
      · obtain ⟨c', hc'⟩ := hc2 p.1 (PySem.mem_of_lookup q2)
        have : c' = c := by have := hc1 _ _ hc'; rw [ec] at this; exact (Option.some.inj this).symm
        subst this
        refine ⟨relabel_free q2, c', hc', ?_⟩
        obtain ⟨o, ho, hd⟩ := hcell
        exact ⟨o, hkeep _ _ ho, hd⟩
  · obtain ⟨o, v, ho, hd⟩ := cne x c (hc1 x c e)
    exact ⟨v, o, hkeep _ _ ho, hd⟩
  · show upd H2 _ _ C = none
    rw [upd_ne hCl]; exact hCn
  · obtain ⟨o, v, ho, hd⟩ := cne x c (hc1 x c e)
    have : c ≠ s2.heap.objs.size := Nat.ne_of_lt (Heap.lt_size ho)
    rw [upd_ne this]
    exact I2.freeC x c (hc1 x c e)
  · have hp' : p ∈ X.pn ++ pins := by
      rcases List.mem_append.mp hp with z | z
      · exact z
      · exact absurd z (by simp)
    obtain ⟨e, n, ne, nf, d⟩ := I2.pin p hp'
    refine ⟨hkeep _ _ e, ?_, below e, fun z => ?_, d⟩
    · rw [upd_ne (Nat.ne_of_lt (Heap.lt_size e))]; exact n
    · rcases List.mem_cons.mp (I2.stkSub p.1 z) with y | y
      · exact ne y
      · exact nf y
  · exact I2.hok.laid hkeep (Nat.le_refl _) ⟨by simp, [], _, .nil, hacc⟩
  · show (σC loc.length frees σ).length = (loc ++ frees.map (·.1)).length
    unfold σC
    simp
theorem comp_back {C : Addr} {H' : Hp} {s' : Shared} {σ' : St} {h' : Heap} {pl : List (Addr × Obj)} (I2 : Inv X pins σ H2 s2) (f2 : ∀ b ∈ fp, FpOk X pins H2 b) (hC : C = s2.heap.objs.size + 1)
    (J : Inv (compCx X N scope ⟨cl, C, s2, H2, fp, pl⟩) [] σ' H' s') (hs : Heap.SameBut C s'.heap h') : Inv X pins σ H' { s' with heap := h' } := by
  have I3 : Inv X pins σ H' s' := I2.call' (ch := fp) J.os J.base J.hok J.bare fun b hb => ⟨(f2 b hb).2.2.2.1, (f2 b hb).2.1, (f2 b hb).2.2.2.2.1, (f2 b hb).2.2.2.2.2⟩
  refine I3.turned (it := C) (t' := s'.toks) (fun b o hb e => (hs.2 b hb).trans e) J.free ?_ (.inr ?_) (fun x c e z => ?_) fun p hp z => ?_
  · intro z
    have := I2.lt
    rw [← z, hC] at this; exact Nat.lt_irrefl _ (Nat.lt_of_succ_lt this)
  · rw [hC]; exact Nat.le_trans I2.sz (Nat.le_succ _)
  · obtain ⟨v, q⟩ := I2.cell x c e
    have := q.lt
    rw [z, hC] at this; exact Nat.lt_irrefl _ (Nat.lt_of_succ_lt this)
  · have := Heap.lt_size (I2.pin p hp).1
    rw [z, hC] at this; exact Nat.lt_irrefl _ (Nat.lt_of_succ_lt this)
end
end L2
namespace L2
open PySem PySem.Spec PyProof.Rows
noncomputable abbrev TC := St → Hp → (St → Hp → Prop) → Prop
noncomputable def tForJ (J : It) (g : TG) (tb : TS) (D : Ends) (σ : St) (H : Hp) : Prop := ∃ W : Nat → Nat → St → Hp → Prop, (∃ m, W 0 m σ H) ∧ ∀ i m σ H, W i m σ H →
  (J.stop i H ∧ D.nx σ H) ∨ (J.go i H ∧ ∃ N : St → Hp → Prop, (∀ σ' H', N σ' H' → ∃ m', m' < m ∧ W (i + 1) m' σ' H') ∧ ∀ x H', J.yld i H x H' → g x σ H' fun σ2 H2 => tb { D with nx := N, ct := N, bk := D.nx } σ2 H2)
noncomputable def eC (Q : St → Hp → Prop) : Ends := { nx := Q, rt := fun _ _ => False }
noncomputable def tBodyC (tt : TT) (tb : TC) : TS := fun D σ H => tt σ H fun b H1 => if b = true then tb σ H1 D.nx else D.nx σ H1
noncomputable def tEmit (l : Addr) (te : TE) : TC := fun σ H Q => te σ H fun v H1 => ∃ xs, H1 l = some (.lst xs) ∧ xs.length < sizeLine ∧ Q σ (upd H1 l (.lst (xs ++ [v])))
noncomputable def tNest (wi : TI) (g : TG) (tt : TT) (tb : TC) : TC := fun σ H Q => wi σ H fun J H1 => tForJ J g (tBodyC tt tb) (eC Q) σ H1
noncomputable def tComp1 (wi : TI) (g : CompZ → TG) (tt : CompZ → TT) (te : CompZ → TE) (n : Nat) (frees : List (Str × Nat)) : TE := fun σ H Q => wi σ H fun J H1 => ∀ (Z : CompZ) (l : Addr), H1 l = none →
  tForJ J (g Z) (tBodyC (tt Z) (tEmit l (te Z))) (eC fun _ H' => Q (.ref l) H') (σC n frees σ) (upd H1 l (.lst []))
noncomputable def tComp2 (wi : TI) (g : CompZ → TG) (tt : CompZ → TT) (wi2 : CompZ → TI) (g2 : CompZ → TG) (tt2 : CompZ → TT) (te : CompZ → TE) (n : Nat) (frees : List (Str × Nat)) : TE := fun σ H Q => wi σ H fun J H1 => ∀ (Z : CompZ) (l : Addr), H1 l = none →
  tForJ J (g Z) (tBodyC (tt Z) (tNest (wi2 Z) (g2 Z) (tt2 Z) (tEmit l (te Z)))) (eC fun _ H' => Q (.ref l) H') (σC n frees σ) (upd H1 l (.lst []))
noncomputable def testsOf (ifs : List Expr) (env : Env) : Sem Bool := forIn ifs true fun c r => if r = true then do let ok ← isTrue c env (eval c env); pure (ForInStep.yield ok) else pure (ForInStep.yield r)
noncomputable def PTs (Y : Cx) (ifs : List Expr) (t : TT) : Prop := ∀ (pins : List (Addr × Obj)) (s : Shared) (σ : St) (H : Hp) (Q : Bool → Hp → Prop), Inv Y pins σ H s → t σ H Q →
  wpAny (model Y.prog Y.w) Y.A (testsOf ifs Y.env) (TP Y pins σ Q) Y.xe s
noncomputable def tAll : TT := fun _ H Q => Q true H
theorem pts_nil {Y : Cx} : PTs Y [] tAll := fun pins s σ H Q I h => wpAny_tests_nil ⟨H, I, h⟩
theorem pts_one {Y : Cx} {c : Expr} {t : TT} (hc : PT Y c t) : PTs Y [c] t := fun pins s σ H Q I h => wpAny_tests_one (hc pins s σ H Q I h)
noncomputable def PB (Y : Cx) (tail : (Unit → Sem Fin) → Sem Fin) (r : TC) : Prop := ∀ (pins : List (Addr × Obj)) (s : Shared) (σ : St) (H : Hp) (Q : St → Hp → Prop) (Q' : Fin → Shared → Prop) (k : Unit → Sem Fin), Inv Y pins σ H s → r σ H Q →
  (∀ σ' H' s', Inv Y pins σ' H' s' → Q σ' H' → wpAny (model Y.prog Y.w) Y.A (k ()) Q' (fun _ _ => False) s') → wpAny (model Y.prog Y.w) Y.A (tail k) Q' (fun _ _ => False) s
theorem nox_of {α : Type} {M : Model} {A : Around} {t : Sem α} {Q : α → Shared → Prop} {E E' : Value → Shared → Prop} {s : Shared} (h : wpAny M A t Q E s) (hx : E = fun _ _ => False) : wpAny M A t Q E' s := by
  subst hx
  exact wpAny_mono h (fun _ _ q => q) fun _ _ z => z.elim
noncomputable def tailEmit (elt : Expr) (acc : Value) (env : Env) (k : Unit → Sem Fin) : Sem Fin := (eval elt env >>= fun x => call (.builtin "list.append") [acc, x] >>= fun _ => pure ()) >>= k
theorem pb_emit {Y : Cx} {elt : Expr} {te : TE} {l : Addr} (hx : Y.xe = fun _ _ => False) (he : PE Y elt te) : PB Y (tailEmit elt (.ref l) Y.env) (tEmit l te) := by
  intro pins s σ H Q Q' k I h hk
  refine wpAny_bind (wpAny_bind (thn (nox_of (he pins s σ H _ I h) hx) fun v s1 ⟨x, H1, I1, r1, q1⟩ => ?_))
  obtain ⟨xs, e, hz, q⟩ := q1
  refine wpAny_bind (thn (nox_of (mt_append pins s1 σ H1 (.ref l) [x] (.ref l) [v] (fun _ H2 => Q σ H2) I1 rfl (.cons r1 .nil) ⟨l, xs, x, rfl, rfl, e, hz, q⟩) hx) fun u s2 ⟨y, H2, I2, r2, q2⟩ => ?_)
  exact wpAny_pure (hk σ H2 s2 I2 q2)
noncomputable def turnOf (e : Expr) (d : Nat) (it acc : Value) (env : Env) (tg iter : Expr) (ifs : List Expr) (tail : (Unit → Sem Fin) → Sem Fin) : Sem Fin :=
  standAt iter.pos >>= fun _ => pyNext it >>= fun r => match r with
    | none => pure (.done .next)
    | some v => letOwnedTupleGo tg it v >>= fun _ => assign tg env v >>= fun _ => testsOf ifs env >>= fun ok =>
      if ok = true then tail (fun _ => again (.compLoop e d it acc env)) else again (.compLoop e d it acc env)
theorem turn_1 (elt tg iter : Expr) (ifs : List Expr) (scope : Scope) (pos : Pos) (it acc : Value) (env : Env) :
    compTurn (.ListComp elt [⟨tg, iter, ifs, 0⟩] scope pos) 0 it acc env = turnOf (.ListComp elt [⟨tg, iter, ifs, 0⟩] scope pos) 0 it acc env tg iter ifs (tailEmit elt acc env) := by rfl
theorem turn_2b (elt tg iter : Expr) (ifs : List Expr) (g : Comprehension) (scope : Scope) (pos : Pos) (it acc : Value) (env : Env) :
    compTurn (.ListComp elt [g, ⟨tg, iter, ifs, 0⟩] scope pos) 1 it acc env = turnOf (.ListComp elt [g, ⟨tg, iter, ifs, 0⟩] scope pos) 1 it acc env tg iter ifs (tailEmit elt acc env) := by rfl
noncomputable def tailNest (e : Expr) (iter : Expr) (acc : Value) (env : Env) (k : Unit → Sem Fin) : Sem Fin :=
  eval iter env >>= fun x => standAt iter.pos >>= fun _ => foldedSetIterable iter env x >>= fun x => holding [x] (pyIter x) >>= fun i => runOwn (.compStart e 1 i acc env) env >>= fun _ => k ()
theorem turn_2a (elt tg iter tg2 iter2 : Expr) (ifs ifs2 : List Expr) (scope : Scope) (pos : Pos) (it acc : Value) (env : Env) :
    compTurn (.ListComp elt [⟨tg, iter, ifs, 0⟩, ⟨tg2, iter2, ifs2, 0⟩] scope pos) 0 it acc env = turnOf (.ListComp elt [⟨tg, iter, ifs, 0⟩, ⟨tg2, iter2, ifs2, 0⟩] scope pos) 0 it acc env tg iter ifs
      (tailNest (.ListComp elt [⟨tg, iter, ifs, 0⟩, ⟨tg2, iter2, ifs2, 0⟩] scope pos) iter2 acc env) := by rfl
section
variable {Y : Cx}
theorem comp_loop {elt tg iter : Expr} {gens : List Comprehension} {scope : Scope} {pos : Pos} {d : Nat} {ifs : List Expr} {it l : Addr} {tail : (Unit → Sem Fin) → Sem Fin} {fp : List Addr} {tn : Nat → Heap → Prop} {J : It} {g : TG} {tt : TT} {tb : TC} {pins : List (Addr × Obj)} {σ : St} {H : Hp} {s : Shared} {Q : St → Hp → Prop}
    (hx : Y.xe = fun _ _ => False) (hc : Y.calm = true) (heq : compTurn (.ListComp elt gens scope pos) d (.ref it) (.ref l) Y.env = turnOf (.ListComp elt gens scope pos) d (.ref it) (.ref l) Y.env tg iter ifs tail) (hg : PG Y tg g) (ht : PTs Y ifs tt) (hb : PB Y tail tb)
    (I : Inv Y pins σ H s) (T : Turn Y.prog Y.w Y.K tg J fp it tn) (st : tn 0 s.heap) (f2 : ∀ b ∈ fp, FpOk Y pins H b) (h : tForJ J g (tBodyC tt tb) (eC Q) σ H) :
    codeAny (model Y.prog Y.w) Y.A (.compLoop (.ListComp elt gens scope pos) d (.ref it) (.ref l) Y.env) (fun r s' => r = .ok .next ∧ ∃ σ' H', Inv Y pins σ' H' s' ∧ Q σ' H') s := by
  obtain ⟨W, ⟨m0, w0⟩, turn⟩ := h
  have stat : ∀ {H' : Hp}, (∀ b ∈ fp, H' b = none) → ∀ b ∈ fp, FpOk Y pins H' b := fun hn b hb => ⟨hn b hb, (f2 b hb).2⟩
  refine codeAny_loop rfl (fun n s' => ∃ i σ' H', Inv Y pins σ' H' s' ∧ tn i s'.heap ∧ (∀ b ∈ fp, H' b = none) ∧ W i n σ' H') (fun n s3 hI => ?_) m0 ⟨0, σ, H, I, st, fun b hb => (f2 b hb).1, w0⟩
  obtain ⟨i, σ3, H3, I3, st3, fr3, w3⟩ := hI
  show wpAny _ Y.A ((compTurn (.ListComp elt gens scope pos) d (.ref it) (.ref l) Y.env).onRaise (fun x => do noteFrame x Y.env; theTreesLotGoes x)) _ _ s3
  refine wpAny_noted ?_
  rw [heq]
  unfold turnOf
  refine wpAny_bind (wpAny_standAt (wpAny_bind ?_))
  rcases turn i n σ3 H3 w3 with ⟨stop, qn⟩ | ⟨go, N, hN, step⟩
  · refine thn (T.done Y rfl rfl rfl hc i pins s3 σ3 H3 _ I3 (stat fr3) st3 stop) fun r s4 ⟨hr, I4⟩ => ?_
    subst hr
    exact wpAny_pure ⟨rfl, σ3, H3, I4, qn⟩
  · refine thn (T.item Y rfl rfl rfl hc i pins s3 σ3 H3 _ I3 (stat fr3) st3 go) fun r s4 ⟨u, hr, h4⟩ => ?_
    subst hr
    refine wpAny_bind (thn h4 fun _ s5 ⟨x, H5, I5, r5, y5, st5, fr5⟩ => ?_)
    have I5' := I5.pinned (stat fr5) (T.obj _ _ st5)
    refine wpAny_bind (thn (nox_of (hg _ s5 σ3 H5 x u _ I5' r5 (step x H5 y5)) hx) fun _ s6 ⟨σ6, H6, I6, q6⟩ => ?_)
    refine wpAny_bind (thn (nox_of (ht _ s6 σ6 H6 _ I6 q6) hx) fun ok s7 ⟨H7, I7, q7⟩ => ?_)
    have again : ∀ {σ7 : St} {H7 : Hp} {s7 : Shared}, Inv Y (pins ++ pinsAt fp s5.heap) σ7 H7 s7 → N σ7 H7 → ∃ m, m < n ∧ ∃ i σ' H', Inv Y pins σ' H' s7 ∧ tn i s7.heap ∧ (∀ b ∈ fp, H' b = none) ∧ W i m σ' H' := fun {σ7 H7 s7} I7 n7 => by
      obtain ⟨m', hm, w7⟩ := hN σ7 H7 n7
      refine ⟨m', hm, i + 1, σ7, H7, I7.unpinned, T.keep _ _ _ st5 fun b hb o e => (I7.pin (b, o) (List.mem_append_right _ (List.mem_append_right _ (mem_pinsAt hb e)))).1, fun b hb => ?_, w7⟩
      obtain ⟨o, e, d⟩ := T.obj _ _ st5 b hb
      exact (I7.pin (b, o) (List.mem_append_right _ (List.mem_append_right _ (mem_pinsAt hb e)))).2.1
    cases ok with
    | false =>
      rw [if_neg Bool.false_ne_true] at q7 ⊢
      exact wpAny_pure ⟨rfl, again I7 q7⟩
    | true =>
      rw [if_pos rfl] at q7 ⊢
      exact nox_of (hb _ s7 σ6 H7 _ _ _ I7 q7 fun σ8 H8 s8 I8 q8 => wpAny_pure ⟨rfl, again I8 q8⟩) rfl
theorem start_1 {prog : Program} {w : World} {A : Around} {R : Result → Shared → Prop} {s : Shared} {elt target iter : Expr} {ifs : List Expr} {g : Comprehension} {scope : Scope} {pos : Pos} {it acc : Value} {env : Env}
    (h0 : codeAny (model prog w) A (.compLoop (.ListComp elt [g, ⟨target, iter, ifs, 0⟩] scope pos) 1 it acc env) R s)
    (h : wpAny (model prog w) A (pyIter it) (fun it' s' => codeAny (model prog w) A (.compLoop (.ListComp elt [g, ⟨target, iter, ifs, 0⟩] scope pos) 1 it' acc env) R s')
      (notedBy (model prog w) A env fun x s' => R (.error x) s') s) :
    codeAny (model prog w) A (.compStart (.ListComp elt [g, ⟨target, iter, ifs, 0⟩] scope pos) 1 it acc env) R s := by
  refine codeAny_of_tree ?_
  show wpAny _ _ ((compStart (.ListComp elt [g, ⟨target, iter, ifs, 0⟩] scope pos) 1 it acc env).onRaise (fun x => do noteFrame x env; standAt theWindowsPlace)) _ _ s
  refine wpAny_notedAt ?_
  unfold compStart
  show wpAny _ _ (ask >>= _) _ _ s
  refine wpAny_bind (wpAny_askSetting (wpAny_ite ?_))
  split
  · first
      | exact wpAny_bind (wpAny_pure (wpAny_pure (And.intro rfl h0)))
      | exact wpAny_pure (And.intro rfl h0)
  · first
      | exact wpAny_bind (wpAny_rule (wpAny_bind (wpAny_standAt (wpAny_bind (wpAny_mono h (fun it' s' h' => wpAny_pure (And.intro rfl h')) fun _ _ x => x)))))
      | (refine wpAny_bind (wpAny_rule ?_); show wpAny _ _ (standAt iter.pos >>= _) _ _ s; exact wpAny_bind (wpAny_standAt (wpAny_bind (wpAny_mono h (fun it' s' h' => wpAny_pure (And.intro rfl h')) fun _ _ x => x))))
theorem pb_nest {elt tg iter : Expr} {ifs : List Expr} {g1 : Comprehension} {scope : Scope} {pos : Pos} {l : Addr} {wi : TI} {g : TG} {tt : TT} {te : TE} (hx : Y.xe = fun _ _ => False) (hc : Y.calm = true) (hi : PI Y tg iter wi) (hg : PG Y tg g) (ht : PTs Y ifs tt) (he : PE Y elt te)
    (hs : ∀ x, foldedSetIterable iter Y.env x = pure x := by intro _; rfl) :
    PB Y (tailNest (.ListComp elt [g1, ⟨tg, iter, ifs, 0⟩] scope pos) iter (.ref l) Y.env) (tNest wi g tt (tEmit l te)) := by
  intro pins s σ H Q Q' k I h hk
  unfold tailNest
  refine wpAny_bind (thn (nox_of (hi pins s σ H _ I h) hx) fun v s1 h1 => ?_)
  refine wpAny_bind (wpAny_standAt (wpAny_bind (wpAny_of_eq (hs v) (wpAny_bind (wpAny_holding (thn (nox_of h1 hx) fun itv s2 h2 => ?_))))))
  obtain ⟨it, fp, tn, J, H2, e, I2, T, st2, f2, q2⟩ := h2
  subst e
  have L : codeAny (model Y.prog Y.w) Y.A (.compLoop (.ListComp elt [g1, ⟨tg, iter, ifs, 0⟩] scope pos) 1 (.ref it) (.ref l) Y.env) (fun r s' => r = .ok .next ∧ ∃ σ' H', Inv Y pins σ' H' s' ∧ Q σ' H') s2 :=
    comp_loop hx hc (turn_2b ..) hg ht (pb_emit hx he) I2 T st2 f2 q2
  refine wpAny_bind (wpAny_runOwn (codeAny_mono (start_1 L (T.self _ _ _ _ _ st2 L)) fun r s3 h3 => ?_))
  obtain ⟨rfl, σ3, H3, I3, q3⟩ := h3
  exact hk σ3 H3 s3 I3 q3
end
section
variable {X : Cx} {scope : Scope} {loc : List Str} {frees : List (Str × Nat)} {ns : List (Str × NameKind)} {N : List Str} {pos : Pos}
theorem comp_core {e : Expr} {gs : List Comprehension} {g0 : Comprehension} {wi : TI} {tg iter : Expr} {R : CompZ → Addr → It → St → Hp → (Hp → Prop) → Prop} {use : Option (Value → Sem Unit)} {Q : Value → Shared → Prop} {newPos : Pos}
    (hcl : clausesOf e = g0 :: gs) (hg0 : g0.iter = iter) (hi : PI X tg iter wi) (hns : X.env.scope.names = ns) (hN : X.N = N) (hk : scope.kind = .function) (ok : CompOk ns N scope frees)
    (hs : ∀ x, foldedSetIterable iter X.env x = pure x) {pins : List (Addr × Obj)} {s : Shared} {σ : St} {H : Hp} {QH : Addr → Hp → Prop} (I : Inv X pins σ H s)
    (h : wi σ H fun J H1 => ∀ (Z : CompZ) (l : Addr), H1 l = none → R Z l J (σC loc.length frees σ) (upd H1 l (.lst [])) (QH l))
    (block : ∀ (Z : CompZ) (l it : Addr) (fp : List Addr) (tn : Nat → Heap → Prop) (J : It) (H4 : Hp) (s4 : Shared) (σ4 : St), Z.fp = fp → Inv (compCx X (loc ++ frees.map (·.1)) scope Z) [] σ4 H4 s4 → Turn X.prog X.w X.K tg J fp it tn → tn 0 s4.heap →
      (∀ b ∈ fp, FpOk (compCx X (loc ++ frees.map (·.1)) scope Z) [] H4 b) → R Z l J σ4 H4 (QH l) →
      codeAny (model X.prog X.w) X.A (.compStart e 0 (.ref it) (.ref l) (compEnvC scope Z.cl Z.C X.env)) (fun r s' => r = .ok .next ∧ ∃ σ' H', Inv (compCx X (loc ++ frees.map (·.1)) scope Z) [] σ' H' s' ∧ QH l H') s4)
    (fin : ∀ (l C : Addr) (H' : Hp) (s' : Shared), (∃ m, s'.heap.Ns C m) → Inv X pins σ H' s' → H' C = none → X.s₀.heap.objs.size ≤ C → C ≠ X.env.locals → (∀ x c, X.env.cells.lookup x = some c → c ≠ C) → (∀ h', Heap.SameBut C s'.heap h' → Inv X pins σ H' { s' with heap := h' }) → (∀ p ∈ X.pn ++ pins, p.1 ≠ C) → QH l H' →
      compPost (model X.prog X.w) X.A X.xe use Q (.ref l) C (.ok .next) s') :
    wpAny (model X.prog X.w) X.A (comprehension e scope X.env newPos (newList []) false (eval iter X.env) use) Q X.xe s := by
  obtain ⟨cl, hclos, hc1, hc2⟩ := clos_ok (env := X.env) (scope := scope) fun x hx hf => by
    refine I.ok.has x.1 ?_
    have := (ok.1 x hx).2.2 hf
    rw [← hns] at this
    exact this
  have hs' : ∀ x, foldedSetIterable g0.iter X.env x = pure x := by rw [hg0]; exact hs
  refine wpAny_comprehension_free hcl hs' hclos hk (fun x hx hl => (ok.1 x hx).2.1 hl) (thn (hi pins s σ H _ I h) fun v s1 h1 => thn h1 fun itv s2 h2 => ?_)
  obtain ⟨it, fp, tn, J, H2, e2, I2, T, st2, f2, q2⟩ := h2
  subst e2
  refine wpAny_newObj_type (wpAny_newFunctionEnv (fun x hx => (ok.1 x hx).1) (by intro y hy; simp at hy) (fun h₁ hns₁ hsb₁ => ?_) hk)
  dsimp only at hns₁ hsb₁ ⊢
  have hsz : (s2.heap.push { cls := .type "list", dict := none, data := .seq ([] : List Value).toArray }).objs.size = s2.heap.objs.size + 1 := Heap.size_push ..
  generalize hCeq : (s2.heap.push { cls := .type "list", dict := none, data := .seq ([] : List Value).toArray }).objs.size = C at hns₁ hsb₁ hsz ⊢
  have keep : ∀ b o, s2.heap.get? b = some o → h₁.get? b = some o := fun b o e => hsb₁.extBut b o (by rw [hsz]; exact Nat.ne_of_lt (Nat.lt_succ_of_lt (Heap.lt_size e))) (Heap.get?_push_of_some _ (Heap.get?_push_of_some _ e))
  have hacc : h₁.get? s2.heap.objs.size = some { cls := .type "list", dict := none, data := .seq ([] : List Value).toArray } :=
    hsb₁.extBut _ _ (by rw [hsz]; exact Nat.ne_of_lt (Nat.lt_succ_self _)) (Heap.get?_push_of_some _ (Heap.get?_push_size _ rfl))
  have live : ∀ b ∈ fp, ∃ o, s2.heap.get? b = some o := fun b hb => let ⟨o, ho, _⟩ := T.obj _ _ st2 b hb; ⟨o, ho⟩
  have J0 := comp_start (scope := scope) (loc := loc) (frees := frees) (tk := s2.toks + ([] : List (Str × Value)).length) I2 hns hN hk ok f2 live hc1 hc2 hsz ⟨_, hns₁⟩ hacc keep
  have hln : H2 s2.heap.objs.size = none := I2.hok.fresh (Nat.le_refl _)
  have B := block ⟨cl, C, s2, H2, fp, X.pn ++ pins⟩ s2.heap.objs.size it fp tn J _ _ _ rfl J0 T (T.keep _ _ _ st2 fun b _ o e => keep b o e) (fun b hb => by
    obtain ⟨o, ho⟩ := live b hb
    obtain ⟨z0, z1, z2, z3, z4, z5⟩ := f2 b hb
    refine ⟨?_, ?_, fun z => ?_, .inl hb, fun x c e => z4 x c (hc1 x c e), fun p hp => z5 p ?_⟩
    · rw [upd_ne (Nat.ne_of_lt (Heap.lt_size ho))]; exact z0
    · show b ≠ C
      rw [hsz]; exact Nat.ne_of_lt (Nat.lt_succ_of_lt (Heap.lt_size ho))
    · rcases List.mem_cons.mp (I2.stkSub b z) with y | y
      · exact z1 y
      · exact z2 y
    · rcases List.mem_append.mp hp with y | y
      · exact y
      · exact absurd y (by simp)) (q2 _ _ hln)
  refine codeAny_mono B fun r s' hr => ?_
  obtain ⟨rfl, σ', H', J', q'⟩ := hr
  obtain ⟨m', hm', _⟩ := J'.loc
  have hCl : C ≠ X.env.locals := fun z => by
    have := I2.lt
    rw [← z, hsz] at this; exact Nat.lt_irrefl _ (Nat.lt_of_succ_lt this)
  have hCc : ∀ x c, X.env.cells.lookup x = some c → c ≠ C := fun x c e z => by
    obtain ⟨v, q⟩ := I2.cell x c e
    have := q.lt
    rw [z, hsz] at this; exact Nat.lt_irrefl _ (Nat.lt_of_succ_lt this)
  have hCp : ∀ p ∈ X.pn ++ pins, p.1 ≠ C := fun p hp z => by
    have := Heap.lt_size (I2.pin p hp).1
    rw [z, hsz] at this; exact Nat.lt_irrefl _ (Nat.lt_of_succ_lt this)
  exact fin s2.heap.objs.size C H' s' ⟨m', hm'⟩ (by have := comp_back I2 f2 hsz J' (Heap.SameBut.refl C s'.heap); exact this) J'.free (by rw [hsz]; exact Nat.le_trans I2.sz (Nat.le_succ _)) hCl hCc (fun h' hs => comp_back I2 f2 hsz J' hs) hCp q'
theorem pe_comp1 {elt tg iter : Expr} {ifs : List Expr} {wi : TI} {g : CompZ → TG} {tt : CompZ → TT} {te : CompZ → TE} (ns : List (Str × NameKind)) (N : List Str) (loc : List Str) (frees : List (Str × Nat)) (hc : X.calm = true) (hi : PI X tg iter wi)
    (hns : X.env.scope.names = ns) (hN : X.N = N) (hk : scope.kind = .function) (ok : CompOk ns N scope frees)
    (hg : ∀ Z, PG (compCx X (loc ++ frees.map (·.1)) scope Z) tg (g Z)) (ht : ∀ Z, PTs (compCx X (loc ++ frees.map (·.1)) scope Z) ifs (tt Z)) (he : ∀ Z, PE (compCx X (loc ++ frees.map (·.1)) scope Z) elt (te Z))
    (hs : ∀ x, foldedSetIterable iter X.env x = pure x := by intro _; rfl) : PE X (.ListComp elt [⟨tg, iter, ifs, 0⟩] scope pos) (tComp1 wi g tt te loc.length frees) := by
  intro pins s σ H Q I h
  rw [eval_ListComp]
  refine comp_core (e := .ListComp elt [⟨tg, iter, ifs, 0⟩] scope pos) (g0 := ⟨tg, iter, ifs, 0⟩) (gs := []) (tg := tg) (iter := iter) (loc := loc) (R := fun Z l J σ H QH => tForJ J (g Z) (tBodyC (tt Z) (tEmit l (te Z))) (eC fun _ H' => QH H') σ H) (use := none) (QH := fun l H' => Q (.ref l) H') rfl rfl hi hns hN hk ok hs I h ?_ ?_
  · intro Z l it fp tn J H4 s4 σ4 hfp I4 T st4 f4 q4
    have L := comp_loop (Y := compCx X (loc ++ frees.map (·.1)) scope Z) rfl hc (turn_1 elt tg iter ifs scope pos (.ref it) (.ref l) _) (hg Z) (ht Z) (pb_emit rfl (he Z)) I4 T st4 f4 q4
    refine codeAny_mono (codeAny_compStart_list L (T.self _ _ _ _ _ st4 L)) fun r s' hr => ?_
    exact hr
  · intro l C H' s' hm J' hn h1 h2 h3 h4 _ q'
    obtain ⟨m, hm⟩ := hm
    exact ⟨m, hm, fun h' hs' => ⟨.ref l, H', h4 h' hs', rfl, q'⟩⟩
theorem pe_comp2 {elt tg iter tg2 iter2 : Expr} {ifs ifs2 : List Expr} {wi : TI} {g g2 : CompZ → TG} {tt tt2 : CompZ → TT} {wi2 : CompZ → TI} {te : CompZ → TE} (ns : List (Str × NameKind)) (N : List Str) (loc : List Str) (frees : List (Str × Nat)) (hc : X.calm = true) (hi : PI X tg iter wi)
    (hns : X.env.scope.names = ns) (hN : X.N = N) (hk : scope.kind = .function) (ok : CompOk ns N scope frees)
    (hg : ∀ Z, PG (compCx X (loc ++ frees.map (·.1)) scope Z) tg (g Z)) (ht : ∀ Z, PTs (compCx X (loc ++ frees.map (·.1)) scope Z) ifs (tt Z))
    (hi2 : ∀ Z, PI (compCx X (loc ++ frees.map (·.1)) scope Z) tg2 iter2 (wi2 Z)) (hg2 : ∀ Z, PG (compCx X (loc ++ frees.map (·.1)) scope Z) tg2 (g2 Z)) (ht2 : ∀ Z, PTs (compCx X (loc ++ frees.map (·.1)) scope Z) ifs2 (tt2 Z))
    (he : ∀ Z, PE (compCx X (loc ++ frees.map (·.1)) scope Z) elt (te Z))
    (hs : ∀ x, foldedSetIterable iter X.env x = pure x := by intro _; rfl) (hs2 : ∀ (Z : CompZ) x, foldedSetIterable iter2 (compCx X (loc ++ frees.map (·.1)) scope Z).env x = pure x := by intro _ _; rfl) :
    PE X (.ListComp elt [⟨tg, iter, ifs, 0⟩, ⟨tg2, iter2, ifs2, 0⟩] scope pos) (tComp2 wi g tt wi2 g2 tt2 te loc.length frees) := by
  intro pins s σ H Q I h
  rw [eval_ListComp]
  refine comp_core (e := .ListComp elt [⟨tg, iter, ifs, 0⟩, ⟨tg2, iter2, ifs2, 0⟩] scope pos) (g0 := ⟨tg, iter, ifs, 0⟩) (gs := [⟨tg2, iter2, ifs2, 0⟩]) (tg := tg) (iter := iter) (loc := loc) (R := fun Z l J σ H QH => tForJ J (g Z) (tBodyC (tt Z) (tNest (wi2 Z) (g2 Z) (tt2 Z) (tEmit l (te Z)))) (eC fun _ H' => QH H') σ H) (use := none) (QH := fun l H' => Q (.ref l) H') rfl rfl hi hns hN hk ok hs I h ?_ ?_
  · intro Z l it fp tn J H4 s4 σ4 hfp I4 T st4 f4 q4
    have L := comp_loop (Y := compCx X (loc ++ frees.map (·.1)) scope Z) rfl hc (turn_2a elt tg iter tg2 iter2 ifs ifs2 scope pos (.ref it) (.ref l) _) (hg Z) (ht Z) (pb_nest rfl hc (hi2 Z) (hg2 Z) (ht2 Z) (he Z) (hs2 Z)) I4 T st4 f4 q4
    refine codeAny_mono (codeAny_compStart_list L (T.self _ _ _ _ _ st4 L)) fun r s' hr => ?_
    exact hr
  · intro l C H' s' hm J' hn h1 h2 h3 h4 _ q'
    obtain ⟨m, hm⟩ := hm
    exact ⟨m, hm, fun h' hs' => ⟨.ref l, H', h4 h' hs', rfl, q'⟩⟩
end
end L2
namespace PySem
open Sem (wp)
open AutoSeq1 (wpAny_loadPart')
section
variable {prog : Program} {w : World} {A : Around} {E : Value → Shared → Prop} {s : Shared}
theorem nextOf_tuple_item {it l : Addr} {i : Nat} {items} {x : Value} {Q : Value → Shared → Prop} (hit : s.heap.IsTupleIter it l i)
    (hl : s.heap.IsTuple l items) (hx : items[i]? = some x)
    (hQ : ∀ h', h'.IsTupleIter it l (i + 1) → Heap.SameBut it s.heap h' → Q x { s with heap := h' }) :
    wpAny (model prog w) A (Builtin.SmallTypes.nextOf (.ref it)) Q E s := by
  obtain ⟨o, ho, hc, hd⟩ := id hit
  obtain ⟨ol, hol, _, nl, hdl⟩ := hl
  unfold Builtin.SmallTypes.nextOf
  refine wpAny_bind (wpAny_callSpecial?_slot (name := Str.ofString "__next__") hit.typeIs F.slot_tuple_iterator_next
    (wpAny_call_entry F.slot_tuple_iterator_next hit.typeIs F.entry_tuple_iterator_next ?_ (F.args_tuple_iterator_next_1 _)))
  show wpAny _ _ (field (.ref it) 0 >>= _) _ _ s
  refine wpAny_bind (wpAny_field ho hd (x := .ref l) rfl ?_)
  show wpAny _ _ (if (Value.ref l == Value.none) = true then _ else _) _ _ s
  rw [if_neg (show ¬ ((Value.ref l == Value.none) = true) from Bool.false_ne_true)]
  show wpAny _ _ (field (.ref it) 1 >>= _) _ _ s
  refine wpAny_bind (wpAny_field ho hd (x := .int i 0) rfl ?_)
  show wpAny _ _ (seqItems? (.ref l) >>= _) _ _ s
  refine wpAny_bind (wpAny_seqItems hol hdl ?_)
  simp only [Int.toNat_natCast, hx]
  refine wpAny_bind (wpAny_setField ho hd (by simp) (wpAny_pure ⟨x, rfl, wpAny_pure (hQ _ ?_ (Heap.SameBut.update ..))⟩))
  exact ⟨_, Heap.get?_update_self _ ho (Obj.isFreed_of_fields (Obj.data_mapFields hd _)), (Obj.cls_mapFields ..).trans hc, by
    rw [Obj.data_mapFields hd]; simp [rawInt]⟩
theorem nextOf_tuple_end {it l : Addr} {i : Nat} {items} {Q : Value → Shared → Prop} (hh : A.handled = none)
    (hit : s.heap.IsTupleIter it l i) (hl : s.heap.IsTuple l items) (hx : items[i]? = none)
    (hE : ∀ h' e, Heap.ExtBut it s.heap h' → (∃ o, h'.get? e = some o ∧ o.cls = .type "StopIteration") → E (.ref e) { s with heap := h' }) :
    wpAny (model prog w) A (Builtin.SmallTypes.nextOf (.ref it)) Q E s := by
  obtain ⟨o, ho, hc, hd⟩ := id hit
  obtain ⟨ol, hol, _, nl, hdl⟩ := hl
  unfold Builtin.SmallTypes.nextOf
  refine wpAny_bind (wpAny_callSpecial?_slot (name := Str.ofString "__next__") hit.typeIs F.slot_tuple_iterator_next
    (wpAny_call_entry F.slot_tuple_iterator_next hit.typeIs F.entry_tuple_iterator_next ?_ (F.args_tuple_iterator_next_1 _)))
  show wpAny _ _ (field (.ref it) 0 >>= _) _ _ s
  refine wpAny_bind (wpAny_field ho hd (x := .ref l) rfl ?_)
  show wpAny _ _ (if (Value.ref l == Value.none) = true then _ else _) _ _ s
  rw [if_neg (show ¬ ((Value.ref l == Value.none) = true) from Bool.false_ne_true)]
  show wpAny _ _ (field (.ref it) 1 >>= _) _ _ s
  refine wpAny_bind (wpAny_field ho hd (x := .int i 0) rfl ?_)
  show wpAny _ _ (seqItems? (.ref l) >>= _) _ _ s
  refine wpAny_bind (wpAny_seqItems hol hdl ?_)
  simp only [Int.toNat_natCast, hx]
  refine wpAny_bind (wpAny_rule (wpAny_bind (wpAny_setField ho hd (by simp) ?_)))
  show wpAny _ _ (newExc (.type "StopIteration") [] >>= _) _ _ _
  refine wpAny_bind ?_
  simp only [newExc, newTuple]
  refine wpAny_bind (wpAny_newObj_type ?_ (by size_fits))
  refine wpAny_bind (m := firstArgMember _ _) (wpAny_of_eq (a := Value.none) (by first | rfl | (simp only [firstArgMember]; rfl)) ?_)
  refine wpAny_newObj_type ?_ (by size_fits)
  simp only [raiseNew]
  refine wpAny_bind (wpAny_handled ?_)
  first | rw [show A.in1.handled = none from hh] | rw [hh]
  refine wpAny_bind (wpAny_pure (wpAny_throw ?_))
  exact hE _ _ (((Heap.SameBut.update ..).extBut.push _).push _) ⟨_, Heap.get?_push_size _ rfl, rfl⟩
end
theorem Draws.tuple {prog : Program} {w : World} {A : Around} (hh : A.handled = none) (it l : Addr) (hne : l ≠ it) (items : Array Value) :
    Draws prog w A it [it, l] items.size (fun i v => items[i]? = some v) (fun i h => h.IsTupleIter it l i ∧ h.IsTuple l items) where
  live := fun _ _ st => let ⟨o, ho, _⟩ := st.1; ⟨o, ho⟩
  frame := fun _ _ _ st hk => ⟨st.1.at fun o e => hk it (by simp) o e, let ⟨o, ho, r⟩ := st.2; ⟨o, hk l (by simp) o ho, r⟩⟩
  item := fun i s Q E hi st hQ => by
    refine nextOf_tuple_item st.1 st.2 (x := items[i]) (by simp [hi]) fun h' hit' hs' => ?_
    exact hQ _ h' s.toks (by simp [hi]) ⟨hit', let ⟨o, ho, r⟩ := st.2; ⟨o, (hs'.2 l hne).trans ho, r⟩⟩ hs'
  done := fun s Q E st hE => nextOf_tuple_end hh st.1 st.2 (by simp) hE
theorem meets_enumerate_newT (l : Addr) (items : Array Value) (n : Nat) (dct : Option Addr) (sl : Array (Option Value)) :
    Meets (Builtin.«enumerate.__new__» ⟨[.type "enumerate", .ref l], []⟩) (fun _ R s => s.heap.get? l = some { cls := .type "tuple", dict := dct, data := .seq items n, slots := sl } ∧
      R (.ok (.ret (.ref (s.heap.push { cls := .type "tuple_iterator", data := .fields #[.ref l, .int 0 0] }).objs.size)))
        { s with heap := (s.heap.push { cls := .type "tuple_iterator", data := .fields #[.ref l, .int 0 0] }).push { cls := .type "enumerate", data := .fields #[.none, .bool false, .ref s.heap.objs.size, rawInt 0, .none, .none] } }) :=
  .of_wp fun prog w A R s h => by
    obtain ⟨hp, g, d, tk, os⟩ := s; obtain ⟨hl, h⟩ := h
    have hsub := sub_enumerate
    have hL : Heap.IsTuple (Shared.heap ⟨hp, g, d, tk, os⟩) l items := ⟨_, hl, rfl, n, rfl⟩
    wp_walk using wpAny_loadPart' hl
    refine wpAny_stack_any fun st => wpAny_pure ?_
    split
    · rename_i c _ _ _ _ _
      cases (c == Value.type "enumerate")
      · wp_walk using wpAny_loadPart' hl, wpAny_pyIter_tuple hL
        exact ⟨_, rfl, h⟩
      · wp_walk using wpAny_loadPart' hl, wpAny_pyIter_tuple hL
        exact ⟨_, rfl, h⟩
    · wp_walk using wpAny_loadPart' hl, wpAny_pyIter_tuple hL
      exact ⟨_, rfl, h⟩
section
variable {prog : Program} {w : World} {A : Around} {E : Value → Shared → Prop} {s : Shared}
theorem call_enumerate_tuple {l : Addr} {items : Array Value} {Q : Value → Shared → Prop} (hL : s.heap.IsTuple l items)
    (h : ∀ h', IsEnum h' (s.heap.objs.size + 1) s.heap.objs.size 0 .none → h'.IsTupleIter s.heap.objs.size l 0 → h'.objs.size = s.heap.objs.size + 2 →
      (∀ b o, s.heap.get? b = some o → h'.get? b = some o) → Q (.ref (s.heap.objs.size + 1)) { s with heap := h' }) :
    wpAny (model prog w) A (call (.type "enumerate") [.ref l]) Q E s := by
  obtain ⟨⟨c, dct, dt, sl⟩, hl, hc, n, hd⟩ := hL
  replace hc : c = .type "tuple" := hc
  replace hd : dt = .seq items n := hd
  subst hc hd
  refine callType_new F.called_enumerate (by decide) (F.typeCall_enumerate_1 _) (F.newCall_enumerate_1 _) (fun obj => F.args_object_init_2 obj _) F.entry_enumerate_new
    (meets_enumerate_newT l items n dct sl) ⟨hl, ?_⟩
  have hz : (s.heap.push { cls := .type "tuple_iterator", data := .fields #[.ref l, .int 0 0] }).objs.size = s.heap.objs.size + 1 := Heap.size_push ..
  show _ ∧ _
  rw [hz]
  have he : IsEnum ((s.heap.push { cls := .type "tuple_iterator", data := .fields #[.ref l, .int 0 0] }).push
      { cls := .type "enumerate", data := .fields #[.none, .bool false, .ref s.heap.objs.size, rawInt 0, .none, .none] }) (s.heap.objs.size + 1) s.heap.objs.size 0 .none := by
    have := Heap.get?_push_size (s.heap.push { cls := .type "tuple_iterator", data := .fields #[.ref l, .int 0 0] })
      (o := { cls := .type "enumerate", data := .fields #[.none, .bool false, .ref s.heap.objs.size, rawInt 0, .none, .none] }) rfl
    rw [hz] at this; exact this
  refine ⟨⟨_, he, rfl⟩, h _ he ⟨_, Heap.get?_push_of_some _ (Heap.get?_push_size _ rfl), rfl, rfl⟩ (by rw [Heap.size_push, hz]) fun b o x => Heap.get?_push_of_some _ (Heap.get?_push_of_some _ x)⟩
end
end PySem
namespace PySem
open Sem (wp)
open Builtin
open AutoSeq1 (wpAny_loadPart')
namespace F
end F
section
variable {prog : Program} {w : World} {A : Around} {E : Value → Shared → Prop} {s : Shared} {a : Addr} {xs : Array Value} {k : Nat} {sl : Array (Option Value)}
end
end PySem
namespace PySem
open Sem (wp)
open Builtin
open AutoSeq1 (wpAny_loadPart')
section
variable {prog : Program} {w : World} {K : Type} [DecidableEq K] {knd : KeyKind prog w K} {A : Around} {E : Value → Shared → Prop} {R : Result → Shared → Prop}
end
end PySem
namespace L2
open PySem PySem.Spec PyProof.Rows
section
variable {X : Cx}
theorem call_isinst : CallR X (.builtin "isinstance") (fun xs H Q => ∃ x T t b, xs = [x, .ty T] ∧ TyOf X.K H x t ∧ PySem.W.kitOne X.K t (.type T) = some b ∧ Q (.bl b) H) := by
  intro pins s σ H xs us Q I r h
  obtain ⟨x, T, t, b, rfl, ty, e, q⟩ := h
  obtain ⟨u, w', rfl, rx, rT⟩ := vals2 r
  cases (show w' = Value.type T from rT)
  exact isinst_ok I rx ty e fun tk => ⟨.bl b, H, I.tok _, rfl, q⟩
theorem bools_of : ∀ {bs : List Bool} {us : List Value}, Vals (bs.map V.bl) us → LSm.BoolsAre us bs
  | [], _, .nil => .nil
  | b :: bs, _, .cons r t => by
    cases (show _ = Value.bool b from r)
    exact .cons b (bools_of t)
end
section
variable {X : Cx} {pins : List (Addr × Obj)} {σ : St} {H : Hp} {s : Shared}
theorem call_all (hc : X.calm = true) : CallR X (.builtin "all") (fun xs H Q => ∃ (p : Addr) (bs : List Bool), xs = [.ref p] ∧ SqL X.K H p (bs.map V.bl) ∧ Q (.bl (bs.all id)) H) := by
  intro pins s σ H xs us Q I r h
  obtain ⟨p, bs, rfl, hq, q⟩ := h
  obtain ⟨u, rfl, rx⟩ := vals1 r
  cases rx
  obtain ⟨its, rv, pl, hz⟩ := I.list hq
  have hb := bools_of rv
  have hlt : p < s.heap.objs.size := by obtain ⟨_, e, _⟩ := pl.isList; exact Heap.lt_size e
  refine call_all_walk (wpAny_pyIter_list pl.isList ?_)
  refine ⟨s.heap.objs.size, [s.heap.objs.size, p], [s.heap.objs.size], its.toArray.size, _, _, fun i => (bs[i]?).getD true, rfl, Walks.list (A := X.A.in1) (by simp [I.ok.hd hc]) _ p (Nat.ne_of_lt hlt) its.toArray, ⟨⟨_, Heap.get?_push_size _ rfl, rfl, rfl⟩, pl.isList.push _⟩, fun i v s' Q' E' hP hQ => ?_, fun h' tk hk => ?_⟩
  · obtain ⟨b, e, rfl⟩ := hb.get i v (by simpa using hP)
    dsimp only at hQ; rw [e] at hQ
    exact wpAny_truthy_bool hQ
  · have e : ((List.range its.toArray.size).all fun i => (bs[i]?).getD true) = bs.all id := by rw [List.size_toArray, hb.length, LSm.range_all]
    rw [e]
    exact ⟨.bl _, H, I.kept (h' := h') (t' := tk) (LSm.kept_iter hk), rfl, q⟩
theorem Inv.turnedL {fp : List Addr} {h' : Heap} {t' : Nat} (I : Inv X pins σ H s) (k : ∀ b o, b ∉ fp → s.heap.get? b = some o → h'.get? b = some o) (hf : ∀ b ∈ fp, FpOk X pins H b) : Inv X pins σ H { s with heap := h', toks := t' } := by
  have nfp : ∀ b u, H b = some u → b ∉ fp := fun b u e z => by rw [(hf b z).1] at e; cases e
  refine I.step (g' := s.gens) (d' := s.drawn) (ch := fp) (fun b hb => ⟨(hf b hb).2.2.2.1, (hf b hb).2.1, (hf b hb).2.2.2.2.1, (hf b hb).2.2.2.2.2⟩) (fun b o _ _ hc e _ => k b o hc e) (fun b o _ _ hc e _ => ⟨o.slots, k b o hc e⟩) (fun _ _ _ _ n => n) (fun b o hc e => ⟨o, k b o hc e⟩)
    (fun _ _ e => e) (fun _ _ _ e => e) (fun b ps e => ⟨#[], by rw [e]; simp⟩) (fun m hm => ?_) (fun b u e => ?_) I.bare
  · obtain ⟨o, es, ep, ho, r⟩ := hm
    exact ⟨o, es, ep, k _ o (fun z => (hf _ z).2.1 rfl) ho, r⟩
  · refine (I.hok b u e).stay (fun c v hc q => k c v ?_ q) (fun _ q => q) fun _ _ q => q
    rcases hc with z | z
    · rw [z]; exact nfp b u e
    · exact nfp c _ z
theorem Inv.turnLaid {fp : List Addr} {h' : Heap} {t' : Nat} {p : Addr} {o : HO} (I : Inv X pins σ H s) (k : ∀ b u, b ∉ fp → s.heap.get? b = some u → h'.get? b = some u) (hf : ∀ b ∈ fp, FpOk X pins H b) (hp : s.heap.objs.size ≤ p)
    (new : ObjOk X.prog X.w (upd H p o) h' p o) : Inv X pins σ (upd H p o) { s with heap := h', toks := t' } := by
  have nfp : ∀ b u, H b = some u → b ∉ fp := fun b u e z => by rw [(hf b z).1] at e; cases e
  have hn := I.hok.fresh hp
  have old : ∀ {b : Addr} {u : Obj}, s.heap.get? b = some u → b ≠ p := fun e => Nat.ne_of_lt (Nat.lt_of_lt_of_le (Heap.lt_size e) hp)
  refine I.step (g' := s.gens) (d' := s.drawn) (ch := fp) (fun b hb => ⟨(hf b hb).2.2.2.1, (hf b hb).2.1, (hf b hb).2.2.2.2.1, (hf b hb).2.2.2.2.2⟩) (fun b o _ _ hc e _ => k b o hc e) (fun b o _ _ hc e _ => ⟨o.slots, k b o hc e⟩) (fun b o _ e n => by rw [upd_ne (old e)]; exact n) (fun b o hc e => ⟨o, k b o hc e⟩)
    (fun b xs e => by rw [upd_ne (ne_of_none e hn)]; exact e) (fun b u xs e => by rw [upd_ne (ne_of_none e hn)]; exact e) (fun b ps e => ⟨#[], by rw [upd_ne (ne_of_none e hn), e]; simp⟩) (fun m hm => ?_) (fun b u e => ?_) I.bare
  · obtain ⟨o, es, ep, ho, r⟩ := hm
    exact ⟨o, es, ep, k _ o (fun z => (hf _ z).2.1 rfl) ho, r⟩
  · by_cases hb : b = p
    · subst hb; rw [upd_same] at e; cases e; exact new
    · rw [upd_ne hb] at e
      refine (I.hok b u e).stay (fun c v hc q => k c v ?_ q) (fun c q => by rw [upd_ne (ne_of_none q hn)]; exact q) fun c xs q => by rw [upd_ne (ne_of_none q hn)]; exact q
      rcases hc with z | z
      · rw [z]; exact nfp b u e
      · exact nfp c _ z
noncomputable def Ite (S : Hp → List V → Prop) : It :=
  ⟨fun i H => ∃ xs x, S H xs ∧ xs[i]? = some x, fun i H x H' => ∃ p y, x = .ref p ∧ H p = none ∧ H' = upd H p (.tup [.int i, y]) ∧ ∀ xs, S H xs → xs[i]? = some y, fun i H => ∃ xs, S H xs ∧ xs.length = i⟩
theorem turn_enumT {P : Program} {w : World} {K : PySem.W.Frag} {es : List Expr} {x1} {pos : Pos} (e it a : Addr) (hei : e ≠ it) :
    Turn P w K (.Tuple es x1 pos) (Ite fun H xs => SqT K H a xs) [e, it] e (fun i h => (∃ old, IsEnum h e it i old) ∧ h.IsTupleIter it a i ∧ a ≠ it ∧ a ≠ e) where
  mem := by simp
  obj := fun i h st b hb => by
    obtain ⟨⟨old, he⟩, ⟨o, e1, c, d⟩, _⟩ := st
    rcases List.mem_cons.mp hb with z | z
    · subst z; exact ⟨_, he, fun v z => by cases z⟩
    · have z' := List.mem_singleton.mp z
      subst z'; exact ⟨o, e1, fun v z => by rw [d] at z; cases z⟩
  keep := fun i h h' st k => ⟨let ⟨old, he⟩ := st.1; ⟨old, k e (by simp) _ he⟩, st.2.1.at fun o q => k it (by simp) o q, st.2.2⟩
  item := by
    intro X hP hw hK hc i pins s σ H E I hf st hg
    subst hP hw hK
    obtain ⟨⟨old, he⟩, hit, hai, hae⟩ := st
    obtain ⟨xs, x, hq, hx⟩ := hg
    obtain ⟨its, rv, p, hz⟩ := I.tuple hq
    obtain ⟨u, hu, ru⟩ := rv.get hx
    have hlt : i < its.toArray.size := by
      rw [List.size_toArray]; exact (List.getElem?_eq_some_iff.mp hu).1
    refine wpAny_pyNext_enum_itemD (Draws.tuple (A := X.A.in1) (by simp [I.ok.hd hc]) it a hai its.toArray) he ⟨hit, p⟩ hlt hei (by simp [hei, Ne.symm hae]) fun v h' tk hv ho hst' hT hsz hk => ?_
    have hv' : v = u := by
      have e1 : its[i]? = some v := by simpa using hv
      rw [hu] at e1; exact (Option.some.inj e1).symm
    subst hv'
    refine ⟨_, rfl, wpAny_letOwnedTupleGo_enum (s := { s with heap := h', toks := tk + 1 }) ho fun h2 he2 hs2 => ?_⟩
    have helt : e < s.heap.objs.size := Heap.lt_size he
    have hilt : it < s.heap.objs.size := by obtain ⟨_, q, _⟩ := hit; exact Heap.lt_size q
    have hTe : s.heap.objs.size ≠ e := Nat.ne_of_gt helt
    have hn : H s.heap.objs.size = none := I.hok.fresh (Nat.le_refl _)
    have kp : ∀ b o, b ∉ [e, it] → s.heap.get? b = some o → h2.get? b = some o := fun b o hb q => by
      have hbe : b ≠ e := fun z => hb (by simp [z])
      have hbi : b ≠ it := fun z => hb (by simp [z])
      exact (hs2.2 b hbe).trans (hk b o hbe hbi q)
    have hT2 : h2.get? s.heap.objs.size = some { cls := .type "tuple", data := .seq #[.int i tk, v] } := (hs2.2 _ hTe).trans hT
    have I2 : Inv X pins σ (upd H s.heap.objs.size (.tup [.int i, x])) { s with heap := h2, toks := tk + 1 } := I.turnLaid (fp := [e, it]) kp hf (Nat.le_refl _) ⟨by show 2 ≤ sizeLine; rw [sizeLine_eq]; decide, [.int i tk, v], .cons ⟨_, rfl⟩ (.cons ru .nil), ⟨_, hT2, rfl, _, rfl⟩⟩
    refine ⟨.ref s.heap.objs.size, _, I2, rfl, ⟨s.heap.objs.size, x, rfl, hn, rfl, fun ys hy => by rw [I.tuple_inj hy hq]; exact hx⟩, ⟨⟨_, by simpa using he2⟩, hst'.1.at fun o q => (hs2.2 it hei.symm).trans q, hai, hae⟩, fun b hb => ?_⟩
    have hbz : b ≠ s.heap.objs.size := by
      rcases List.mem_cons.mp hb with z | z
      · rw [z]; exact Nat.ne_of_lt helt
      · rw [List.mem_singleton.mp z]; exact Nat.ne_of_lt hilt
    rw [upd_ne hbz]; exact (hf b hb).1
  done := by
    intro X hP hw hK hc i pins s σ H E I hf st hg
    subst hP hw hK
    obtain ⟨⟨old, he⟩, hit, hai, hae⟩ := st
    obtain ⟨xs, hq, hx⟩ := hg
    obtain ⟨its, rv, p, hz⟩ := I.tuple hq
    have hl := rv.length
    have hi : its.toArray.size = i := by rw [List.size_toArray, ← hl, hx]
    refine wpAny_pyNext_enum_endD (Draws.tuple (A := X.A.in1) (by simp [I.ok.hd hc]) it a hai its.toArray) he (by rw [hi]; exact ⟨hit, p⟩) fun h' hs' => ⟨rfl, ?_⟩
    exact I.turned (it := it) (t' := s.toks) (fun b o hb q => hs' b o hb q) (hf it (by simp)).1 (hf it (by simp)).2.1 (hf it (by simp)).2.2.2.1 (hf it (by simp)).2.2.2.2.1 (hf it (by simp)).2.2.2.2.2
  self := fun _ _ _ _ _ st h => let ⟨old, he⟩ := st.1; wpAny_pyIter_enum he h
noncomputable def iEnumT (K : PySem.W.Frag) (ta : TA) : TI := fun σ H R => ta σ H fun vs H1 => ∃ a xs, vs = [.ref a] ∧ SqT K H1 a xs ∧ R (Ite fun H xs => SqT K H a xs) H1
theorem pi_enumT {a : Expr} {ta : TA} {p pos : Pos} {es : List Expr} {x1} {tpos : Pos} (hc : X.calm = true) (hg : Gl X "enumerate") (hm : X.mg "enumerate" = none) (ha : PA X [a] ta) (hs : starEach [a] X.env = [(false, eval a X.env)] := by rfl) :
    PI X (.Tuple es x1 tpos) (.Call (.Name "enumerate" p) [a] [] pos) (iEnumT X.K ta) := by
  intro pins s σ H R I h
  refine Call_ (ld_blt I hg hm boot_enumerate (PyProof.Rows.callWith_type1 (thn (ha pos pins s σ H _ I h) fun us s1 ⟨vs, H1, I1, r1, q1⟩ => ?_) hs rfl))
  obtain ⟨b, xs, e, hq, q⟩ := q1
  subst e
  obtain ⟨u, rfl, rx⟩ := vals1 r1
  cases rx
  obtain ⟨its, rv, pt, hz⟩ := I1.tuple hq
  have hblt : b < s1.heap.objs.size := by obtain ⟨o, ho, _⟩ := id pt; exact Heap.lt_size ho
  refine call_enumerate_tuple pt fun h' he hit hsz hk => ?_
  refine wpAny_pyIter_enum (s := { s1 with heap := h' }) he ?_
  have I2 : Inv X pins σ H1 { s1 with heap := h' } := I1.kept (t' := s1.toks) hk
  refine ⟨s1.heap.objs.size + 1, [s1.heap.objs.size + 1, s1.heap.objs.size], _, _, H1, rfl, I2, turn_enumT _ _ b (Nat.succ_ne_self _), ⟨⟨_, he⟩, hit, Nat.ne_of_lt hblt, Nat.ne_of_lt (Nat.lt_succ_of_lt hblt)⟩, fun c hc' => ?_, q⟩
  have hge : s1.heap.objs.size ≤ c := by
    rcases List.mem_cons.mp hc' with z | z
    · rw [z]; exact Nat.le_succ _
    · rw [List.mem_singleton.mp z]; exact Nat.le_refl _
  exact I1.fpOk hge (I1.hok.fresh hge)
theorem for_enum {S : Hp → List V → Prop} {xs : List V} {g : TG} {tb : TS} {D : Ends} {σ : St} {H : Hp} (Pv : Nat → St → Hp → Prop) (h0 : Pv 0 σ H) (hl : ∀ i σ H, i ≤ xs.length → Pv i σ H → S H xs)
    (hs : ∀ i x p σ H, xs[i]? = some x → Pv i σ H → H p = none → g (.ref p) σ (upd H p (.tup [.int i, x])) fun σ2 H2 => tb { D with nx := Pv (i + 1), ct := Pv (i + 1), bk := D.nx } σ2 H2) (hd : ∀ σ H, Pv xs.length σ H → D.nx σ H) :
    tForJ (Ite S) g tb D σ H := by
  refine ⟨fun i m σ H => m = xs.length - i ∧ i ≤ xs.length ∧ Pv i σ H, ⟨xs.length, by simp, Nat.zero_le _, h0⟩, ?_⟩
  rintro i m σ H ⟨rfl, hi, p⟩
  have q := hl i σ H hi p
  by_cases hlt : i < xs.length
  · refine .inr ⟨⟨xs, xs[i], q, by simp [hlt]⟩, Pv (i + 1), fun σ' H' p' => ⟨xs.length - (i + 1), by omega, rfl, hlt, p'⟩, fun x H' y => ?_⟩
    obtain ⟨pp, yy, e1, e2, e3, e4⟩ := y
    subst e1 e3
    exact hs i yy pp σ H (e4 xs q) p e2
  · have e : i = xs.length := by omega
    subst e
    exact .inl ⟨⟨xs, q, rfl⟩, hd σ H p⟩
end
end L2
namespace L2
open PySem PySem.Spec PyProof.Rows
section
variable {X : Cx} {pins : List (Addr × Obj)} {σ : St} {H : Hp} {s : Shared}
noncomputable def NewTup (H : Hp) (ys : List V) (Q : VK) : Prop := ∀ p H', Same H H' → H' p = some (.tup ys) → Q (.ref p) H'
theorem same_upd {H : Hp} {p : Addr} {o : HO} (h : H p = none) : Same H (upd H p o) := fun b u e => by rw [upd_ne (ne_of_none e h)]; exact e
theorem NewTup.new {ys : List V} {Q : VK} {p : Addr} (h : NewTup H ys Q) (hp : H p = none) : Q (.ref p) (upd H p (.tup ys)) := h p _ (same_upd hp) upd_same
theorem NewTup.old {ys : List V} {Q : VK} {p : Addr} (h : NewTup H ys Q) (hp : H p = some (.tup ys)) : Q (.ref p) H := h p H (Same.refl H) hp
theorem Inv.newTup {ys : List V} {its : List Value} {Q : VK} (I : Inv X pins σ H s) (r : Vals ys its) (hz : ys.length ≤ sizeLine) (h : NewTup H ys Q) : EP X pins σ Q (.ref s.heap.objs.size) { s with heap := s.heap.push { cls := .type "tuple", data := .seq its.toArray } } :=
  ⟨.ref s.heap.objs.size, _, I.laid (t' := s.toks) (o := .tup ys) (fun b ob q => Heap.get?_push_of_some _ q) (Nat.le_refl _) ⟨hz, _, r, IsTup.new _ _⟩, rfl, h.new (I.hok.fresh (Nat.le_refl _))⟩
noncomputable def rCatU : R2 := fun x y H Q => ∃ a b xs ys, x = .ref a ∧ y = .ref b ∧ H a = some (.tup xs) ∧ H b = some (.tup ys) ∧ xs.length + ys.length ≤ sizeLine ∧ NewTup H (xs ++ ys) Q
theorem op_catU : OpR X (binaryOp .Add) rCatU := by
  intro pins s σ H x y v u Q I rx ry h
  obtain ⟨a, b, xs, ys, rfl, rfl, ha, hb, hz, q⟩ := h
  cases rx
  cases ry
  obtain ⟨its, r1, p1, _⟩ := I.tuple (SqT.of ha)
  obtain ⟨its2, r2, p2, _⟩ := I.tuple (SqT.of hb)
  by_cases hx : xs = []
  · subst hx
    cases r1
    obtain ⟨⟨c1, d1, t1, l1⟩, ho, hc, n, hd⟩ := id p1
    obtain ⟨⟨c2, d2, t2, l2⟩, ho2, hc2, n2, hd2⟩ := id p2
    simp only at hc hd hc2 hd2
    subst hc hd hc2 hd2
    exact concat_meets ⟨_, ho, rfl⟩ ⟨_, ho2, rfl⟩ noFill_tuple_add seq_tuple_add PySem.F.slot_tuple_add PySem.F.entry_tuple_add (PySem.F.args_tuple_add_2 _ _) (tuple_addW0 a b _ _ n n2 d1 d2 l1 l2 (by simp)) ⟨ho, ho2, .ref b, H, I, rfl, q.old hb⟩
  · refine HT.cat_tup p1 p2 (fun z => hx (r1.nil_iff.mp z)) (fun z => ⟨.ref a, H, I, rfl, ?_⟩) (fun z => I.newTup (r1.append r2) (by rw [List.length_append]; exact hz) q) (by rw [← r1.length, ← r2.length]; exact hz)
    have : ys = [] := r2.nil_iff.mp z
    subst this
    rw [List.append_nil] at q
    exact q.old ha
theorem slice_same {t sl : Addr} {items : Array Value} {vl vu : Value} {lo hi : Option Int} {Q : Value → Shared → Prop} {prog : Program} {w : World} {A : Around} {E : Value → Shared → Prop} (ht : IsTup s.heap t items) (hs : s.heap.IsSliceOf sl vl vu .none) (pl : IsPart vl lo) (pu : IsPart vu hi)
    (hw : HT.sIx items.size 0 lo = 0 ∧ HT.sIx items.size items.size hi = items.size) (h : Q (.ref t) s) : wpAny (model prog w) A (getItem (.ref t) (.ref sl)) Q E s := by
  obtain ⟨os, hos, hcs, hds⟩ := id hs
  have hTs : s.TypeIs (.ref sl) "slice" := ⟨os, hos, hcs⟩
  unfold getItem
  try with_reducible refine wpAny_holding ?_
  first | refine wpAny_bind (wpAny_pure ?_) | skip
  refine wpAny_bind (wpAny_sequenceKey ht.typeIs (by decide) (wpAny_bind (wpAny_callSpecial?_slot (name := Str.ofString "__getitem__") ht.typeIs PyProof.Rows.slot_tuple_getitem (wpAny_call_entry PyProof.Rows.slot_tuple_getitem ht.typeIs entry_tuple_getitem ?_ (args_tuple_getitem _ _)))))
  show wpAny _ _ (Builtin.Tuple.tupleItemsOf (.ref t) >>= _) _ _ s
  refine wpAny_bind (tupleItemsOf_ ht (wpAny_bind (wpAny_typeOf hTs ?_)))
  rw [if_pos (by decide)]
  refine wpAny_bind (HT.sliceApplied_gen hs pl pu ?_)
  have hyes : (((HT.sIx items.size 0 lo : Nat) : Int) == 0 && (1 : Int) == 1 && (HT.sIx items.size items.size hi - HT.sIx items.size 0 lo) == items.size) = true := by rw [hw.1, hw.2]; simp
  show wpAny _ _ (if (((HT.sIx items.size 0 lo : Nat) : Int) == 0 && (1 : Int) == 1 && (HT.sIx items.size items.size hi - HT.sIx items.size 0 lo) == items.size) = true then _ else _) _ _ s
  rw [if_pos hyes]
  obtain ⟨⟨c1, d1, t1, l1⟩, ho, hc, n, hd⟩ := id ht
  simp only at hc hd
  subst hc hd
  obtain ⟨hp, g, d, tk, osx⟩ := s
  wp_walk using AutoSeq1.wpAny_loadPart' ho
  all_goals first | exact ⟨_, rfl, h⟩ | exact ⟨_, rfl, wpAny_pure h⟩
noncomputable def rSlU : V → Option Int → Option Int → Hp → VK → Prop := fun x lo hi H Q => ∃ a xs, x = .ref a ∧ H a = some (.tup xs) ∧ NewTup H (cutV xs lo hi) Q
theorem sl_tupU : SlR X rSlU := by
  intro pins s σ H x v vl vu lo hi sl Q I rx hs pl pu h
  obtain ⟨a, xs, rfl, hx, q⟩ := h
  cases rx
  obtain ⟨its, r, ht, hz⟩ := I.tuple (SqT.of hx)
  have hlen : its.toArray.size = xs.length := by rw [List.size_toArray]; exact r.length.symm
  refine ⟨"tuple", _, PyProof.Rows.slot_tuple_getitem.lookup, ht.typeIs, ?_⟩
  by_cases hw : HT.sIx xs.length 0 lo = 0 ∧ HT.sIx xs.length xs.length hi = xs.length
  · refine slice_same ht hs pl pu (by rw [hlen]; exact hw) ⟨.ref a, H, I, rfl, ?_⟩
    have : cutV xs lo hi = xs := by unfold cutV; rw [hw.1, hw.2]; simp
    rw [this] at q
    exact q.old hx
  · refine HT.getItem_tuple_cut ht hs pl pu (by rw [hlen]; exact hw) ?_ (by rw [hlen]; exact hz)
    rw [hlen]
    exact I.newTup ((r.drop (HT.sIx xs.length 0 lo)).take (HT.sIx xs.length xs.length hi - HT.sIx xs.length 0 lo)) (Nat.le_trans (cutV_length xs lo hi) hz) q
end
end L2
namespace L2
open PySem PySem.Spec PyProof.Rows
section
variable {X : Cx} {pos : Pos}
noncomputable def tPar3 (i j k : Nat) (ta : TA) : TS := fun D σ H => ta σ H fun vs H1 => ∃ v w z, vs = [v, w, z] ∧ D.nx (((σ.set i (some v)).set j (some w)).set k (some z)) H1
theorem ps_par3 {i j k : Nat} {x y z : Str} {a b c : Expr} {ta : TA} {px py pz pt : Pos} {kt k2 pt2} (hc : X.calm = true) (hN : X.N.Nodup) (hi : X.N[i]? = some x) (hj : X.N[j]? = some y) (hk : X.N[k]? = some z) (hij : i ≠ j) (hik : i ≠ k) (hjk : j ≠ k)
    (hx : X.env.scope.names.lookup x = some .local) (hy : X.env.scope.names.lookup y = some .local) (hz : X.env.scope.names.lookup z = some .local) (ha : PA X [a, b, c] ta)
    (hw : swappedStores [.Tuple [.Name x px, .Name y py, .Name z pz] kt pt] (.Tuple [a, b, c] k2 pt2) X.env = pure (some [x, y, z]))
    (hs : swapsWithSole [.Tuple [.Name x px, .Name y py, .Name z pz] kt pt] (.Tuple [a, b, c] k2 pt2) pos.line X.env = pure false := by rfl) :
    PS X (.Assign [.Tuple [.Name x px, .Name y py, .Name z pz] kt pt] (.Tuple [a, b, c] k2 pt2) pos) (tPar3 i j k ta) := by
  intro pins s σ H D I h
  rw [exec_Assign_arm]
  refine wpAny_bind (wpAny_standAt ?_)
  rw [hs]
  refine wpAny_bind (wpAny_pure ?_)
  rw [if_neg (by decide)]
  refine wpAny_bind (Tuple_ (thn (ha _ pins s σ H _ I h) fun us s1 ⟨vs, H1, I1, r1, q1⟩ => ?_))
  obtain ⟨v, w, t, e1, q1⟩ := q1
  subst e1
  obtain ⟨u1, u2, u3, rfl, r1, r2, r3⟩ : ∃ u1 u2 u3, us = [u1, u2, u3] ∧ RelV v u1 ∧ RelV w u2 ∧ RelV t u3 := by
    cases r1 with
    | cons p q =>
      cases q with
      | cons p' q' =>
        cases q' with
        | cons p3 q3 => cases q3; exact ⟨_, _, _, rfl, p, p', p3⟩
  refine wpAny_newObj_type ?_ (by show 3 ≤ sizeLine; decide)
  have I2 : Inv X pins σ H1 { s1 with heap := s1.heap.push { cls := .type "tuple", data := .seq [u1, u2, u3].toArray } } := I1.kept (t' := s1.toks) fun b o e => Heap.get?_push_of_some _ e
  rw [hw]
  refine wpAny_bind (wpAny_pure ?_)
  show wpAny (model X.prog X.w) X.A (do rule "assign.swapped-stores"; let items ← unpackItems (.ref s1.heap.objs.size) 3 none; assignInOrder [fun v => bindName X.env z v, fun v => bindName X.env y v, fun v => bindName X.env x v] items.reverse; pure Flow.next) _ _ _
  refine wpAny_bind (wpAny_rule (wpAny_bind (unpackItems_tuple (items := #[u1, u2, u3]) (I.ok.hd hc) (IsTup.new s1.heap _) fun h' hx' => ?_)))
  have I3 := I2.kept (h' := h') (t' := s1.toks) fun b o e => hx' b o (Nat.ne_of_lt (Heap.lt_size e)) e
  show wpAny _ _ (assignInOrder [fun v => bindName X.env z v, fun v => bindName X.env y v, fun v => bindName X.env x v] [u3, u2, u1] >>= fun _ => pure Flow.next) _ _ _
  refine wpAny_bind (assignInOrder_cons (wpAny_bindName (store_ok I3 hN hk (.inl hz) r3 (fun s2 I4 => ?_) (.inr hz))))
  refine assignInOrder_cons (wpAny_bindName (store_ok I4 hN hj (.inl hy) r2 (fun s3 I5 => ?_) (.inr hy)))
  refine assignInOrder_cons (wpAny_bindName (store_ok I5 hN hi (.inl hx) r1 (fun s4 I6 => assignInOrder_nil (wpAny_pure ?_)) (.inr hx)))
  rw [List.set_comm _ _ (Ne.symm hij), List.set_comm _ _ (Ne.symm hik), List.set_comm _ _ (Ne.symm hjk)] at I6
  exact ⟨_, H1, by first | exact I6 | (rw [List.set_comm _ _ hij] at I6; exact I6) | (simpa [List.set_comm _ _ hij, List.set_comm _ _ hik, List.set_comm _ _ hjk] using I6), q1⟩
end
end L2
namespace L2
open PySem PySem.Spec PyProof.Rows
section
variable {X : Cx} {pins : List (Addr × Obj)} {σ : St} {H : Hp} {s : Shared}
end
theorem FnOk.never {P : Program} {w : World} {K : PySem.W.Frag} {mg : Str → Option Value} {base : Heap} {CX : CXT} {k : Nat} {f : Addr} {fd : FuncData} {ps : List Str} : FnOk P w K mg base CX k f fd ps (fun _ _ _ _ => False) :=
  ⟨fun _ _ _ _ h => h.elim, fun _ _ _ _ _ _ _ _ _ _ _ _ _ h => h.elim⟩
section
variable {X : Cx} {es : List Expr} {te : TE} {t : TA}
theorem pa_c {c j pos} (he : PE X (.Constant c j pos) te) (hr : PA X es t) : PA X (.Constant c j pos :: es) (tCons te t) := pa_cons he hr rfl
theorem pa_v {x pos} (he : PE X (.Name x pos) te) (hr : PA X es t) : PA X (.Name x pos :: es) (tCons te t) := pa_cons he hr rfl
theorem pa_b {a o b pos} (he : PE X (.BinOp a o b pos) te) (hr : PA X es t) : PA X (.BinOp a o b pos :: es) (tCons te t) := pa_cons he hr rfl
theorem pa_u {o b pos} (he : PE X (.UnaryOp o b pos) te) (hr : PA X es t) : PA X (.UnaryOp o b pos :: es) (tCons te t) := pa_cons he hr rfl
theorem pa_k {f a k pos} (he : PE X (.Call f a k pos) te) (hr : PA X es t) : PA X (.Call f a k pos :: es) (tCons te t) := pa_cons he hr rfl
theorem pa_t {a k pos} (he : PE X (.Tuple a k pos) te) (hr : PA X es t) : PA X (.Tuple a k pos :: es) (tCons te t) := pa_cons he hr rfl
theorem pa_l {a pos} (he : PE X (.List a pos) te) (hr : PA X es t) : PA X (.List a pos :: es) (tCons te t) := pa_cons he hr rfl
theorem pa_s {a b pos} (he : PE X (.Subscript a b pos) te) (hr : PA X es t) : PA X (.Subscript a b pos :: es) (tCons te t) := pa_cons he hr rfl
theorem pa_m {a b c pos} (he : PE X (.Compare a b c pos) te) (hr : PA X es t) : PA X (.Compare a b c pos :: es) (tCons te t) := pa_cons he hr rfl
theorem pa_lc {a b c pos} (he : PE X (.ListComp a b c pos) te) (hr : PA X es t) : PA X (.ListComp a b c pos :: es) (tCons te t) := pa_cons he hr rfl
end
@[irreducible] def PAq (X : Cx) (es : List Expr) (t : TA) : Prop := PA X es t
section
variable {X : Cx} {es : List Expr} {te : TE} {t : TA}
theorem pa_q (h : PAq X es t) : PA X es t := by unfold PAq at h; exact h
theorem pq_nil : PAq X [] tNil := by unfold PAq; exact pa_nil
theorem pq_s {x j pos} (hr : PAq X es t) : PAq X (.Constant (.str x) j pos :: es) (tCons (tC (.str x)) t) := by unfold PAq at *; exact pa_c pe_str hr
theorem pq_i {i j pos} (hr : PAq X es t) : PAq X (.Constant (.int i) j pos :: es) (tCons (tC (.int i)) t) := by unfold PAq at *; exact pa_c pe_int hr
theorem pq_tf {b j pos} (hr : PAq X es t) : PAq X (.Constant (.bool b) j pos :: es) (tCons (tC (.bl b)) t) := by unfold PAq at *; exact pa_c pe_bl hr
theorem pq_n {j pos} (hr : PAq X es t) : PAq X (.Constant .none j pos :: es) (tCons (tC .non) t) := by unfold PAq at *; exact pa_c pe_non hr
theorem pq_b {a o b pos} (he : PE X (.BinOp a o b pos) te) (hr : PAq X es t) : PAq X (.BinOp a o b pos :: es) (tCons te t) := by unfold PAq at *; exact pa_b he hr
theorem pq_u {o b pos} (he : PE X (.UnaryOp o b pos) te) (hr : PAq X es t) : PAq X (.UnaryOp o b pos :: es) (tCons te t) := by unfold PAq at *; exact pa_u he hr
theorem pq_k {f a k pos} (he : PE X (.Call f a k pos) te) (hr : PAq X es t) : PAq X (.Call f a k pos :: es) (tCons te t) := by unfold PAq at *; exact pa_k he hr
end
@[irreducible] def PSsq (X : Cx) (st : List Stmt) (t : TS) : Prop := PSs X st t
section
variable {X : Cx} {es : List Expr} {t : TA} {tb : TE} {b : Expr} {p1 p2 p3 pos : Pos}
end
@[irreducible] def PEq (X : Cx) (e : Expr) (t : TE) : Prop := PE X e t
@[irreducible] def PSq (X : Cx) (st : Stmt) (t : TS) : Prop := PS X st t
section
variable {X : Cx} {es : List Expr} {t : TA} {te tb : TE} {b e : Expr} {p1 p2 p3 pos : Pos}
theorem ps_setq {i : Nat} {x : Str} {pos' : Pos} (hN : X.N.Nodup) (hi : X.N[i]? = some x) (hx : Loc X.env.scope x) (h : PAq X es t) (hb : PE X b tb) (hp : PlainIx b) (hs : swapsWith (.Subscript (.List es p1) b p2) (some (.Name x pos')) pos.line X.env = pure false := by rfl)
    (hf : X.fn x = true ∨ X.env.scope.names.lookup x = some .local := by first | exact .inl rfl | exact .inr rfl | assumption) : PSq X (.Assign [.Name x pos'] (.Subscript (.List es p1) b p2) pos) (tAsg (tOp (rIxL X.K) (tLst t) tb) (gName i)) := by
  unfold PSq; exact ps_set hN hi hx (pe_ix ix_list (pe_lst (pa_q h)) hb hp) hs hf
end
section
variable {X : Cx} {es : List Expr} {t : TA} {te : TE} {e : Expr} {p1 p3 : Pos}
theorem tupq {k} (h : PAq X es t) : PEq X (.Tuple es k p1) (tTup t) := by unfold PEq; exact pe_tup (pa_q h)
theorem lstq (h : PAq X es t) : PEq X (.List es p1) (tLst t) := by unfold PEq; exact pe_lst (pa_q h)
theorem pq_tq {a k pos} (he : PEq X (.Tuple a k pos) te) (hr : PAq X es t) : PAq X (.Tuple a k pos :: es) (tCons te t) := by unfold PEq at he; unfold PAq at *; exact pa_t he hr
theorem pq_lq {a pos} (he : PEq X (.List a pos) te) (hr : PAq X es t) : PAq X (.List a pos :: es) (tCons te t) := by unfold PEq at he; unfold PAq at *; exact pa_l he hr
end
end L2
namespace PySem
open Sem (wp)
section
variable {prog : Program} {w : World} {A : Around} {E : Value → Shared → Prop} {s : Shared}
structure ZipFar (z TI TO i1 i2 : Addr) (f1 f2 : List Addr) : Prop where
  z1 : z ∉ f1
  z2 : z ∉ f2
  o1 : TO ∉ f1
  o2 : TO ∉ f2
  c1 : i1 ∉ f2
  c2 : i2 ∉ f1
  Iz : TI ≠ z
  Oz : TO ≠ z
  iz : i1 ≠ z
  jz : i2 ≠ z
  IO : TI ≠ TO
  I1 : TI ≠ i1
  I2 : TI ≠ i2
  O1 : TO ≠ i1
  O2 : TO ≠ i2
  ij : i1 ≠ i2
theorem zipFar_new (n a b : Nat) (h1 : a < n) (h2 : b < n) : ZipFar (n + 4) (n + 2) (n + 3) n (n + 1) [n, a] [n + 1, b] := by
  constructor <;> intro h <;> first
    | (have h' : @Eq Nat _ _ := h; omega)
    | (rcases List.mem_cons.mp h with y | y
       · have y' : @Eq Nat _ _ := y; omega
       · have y' : @Eq Nat _ _ := List.mem_singleton.mp y; omega)
theorem zipD_item {z TI TO i1 i2 : Addr} {f1 f2 : List Addr} {n1 n2 k : Nat} {P1 P2 : Nat → Value → Prop} {S1 S2 : Nat → Heap → Prop} {a b : Value} {Q : Value → Shared → Prop} (D1 : Draws prog w A i1 f1 n1 P1 S1) (D2 : Draws prog w A i2 f2 n2 P2 S2) (D : ZipFar z TI TO i1 i2 f1 f2)
    (hz : IsZip s.heap z TI TO .none) (hTI : IsPair s.heap TI (.ref i1) (.ref i2)) (hTO : IsPair s.heap TO a b) (t1 : S1 k s.heap) (t2 : S2 k s.heap) (hk1 : k < n1) (hk2 : k < n2)
    (hQ : ∀ x y h' tk, P1 k x → P2 k y → IsZip h' z TI TO (rawInt s.heap.objs.size) → IsPair h' TO x y → S1 (k + 1) h' → S2 (k + 1) h' → IsPair h' s.heap.objs.size x y →
      (∀ c o, c ≠ z → c ≠ TO → c ≠ i1 → c ≠ i2 → s.heap.get? c = some o → h'.get? c = some o) → Q (.ref s.heap.objs.size) { s with heap := h', toks := tk }) :
    wpAny (model prog w) A (Builtin.«zip.__next__» ⟨[.ref z], []⟩) (fun fin s' => ∃ v, fin = .done (.ret v) ∧ Q v s') E s := by
  show wpAny _ _ (field (.ref z) 2 >>= _) _ _ _; refine wpAny_bind (wpAny_field hz rfl (x := .bool false) rfl ?_); show wpAny _ _ (field (.ref z) 3 >>= _) _ _ _
  refine wpAny_bind (wpAny_field hz rfl (x := .ref TI) rfl (wpAny_bind (wpAny_seqItems hTI rfl ?_)))
  show wpAny _ _ (Builtin.SmallTypes.ownedTupleIsFree (.ref z) >>= _) _ _ _; refine wpAny_bind ?_; unfold Builtin.SmallTypes.ownedTupleIsFree
  refine wpAny_bind (wpAny_field hz rfl (x := .none) rfl (wpAny_pure ?_)); simp only [if_true]
  refine wpAny_bind (wpAny_rule (wpAny_bind (wpAny_field hz rfl (x := .ref TO) rfl (wpAny_bind (wpAny_setField_rec hz (by simp) fun h₁ hz₁ hs₁ => ?_)))))
  replace hz₁ : IsZip h₁ z TI TO .ellipsis := hz₁
  refine wpAny_bind ?_; simp only [List.zipIdx_cons, List.zipIdx_nil, List.forIn_cons, List.forIn_nil]
  refine wpAny_bind (wpAny_bind (wpAny_onRaise ?_)); show wpAny _ _ (Builtin.SmallTypes.nextOf (.ref i1) >>= _) _ _ _
  have u1 : S1 k h₁ := D1.frame k _ _ t1 fun c hc o e => hs₁.extBut _ _ (fun q => D.z1 (q ▸ hc)) e
  refine wpAny_bind (D1.item k _ _ _ hk1 u1 fun x h₂ tk₂ hx v1 hs₂ => wpAny_pure ?_)
  have hTO₂ : IsPair h₂ TO a b := hs₂.extBut _ _ D.O1 (hs₁.extBut _ _ D.Oz hTO)
  refine wpAny_bind (wpAny_seqItems hTO₂ rfl (wpAny_bind (wpAny_updateSeq_pair hTO₂ fun h₃ hTO₃ hs₃ => ?_)))
  replace hTO₃ : IsPair h₃ TO x b := hTO₃
  refine wpAny_bind (wpAny_letGo (wpAny_pure ?_)); refine wpAny_bind (wpAny_bind (wpAny_onRaise ?_)); show wpAny _ _ (Builtin.SmallTypes.nextOf (.ref i2) >>= _) _ _ _
  have u2 : S2 k h₃ := D2.frame k _ _ t2 fun c hc o e => hs₃.extBut _ _ (fun q => D.o2 (q ▸ hc)) (hs₂.extBut _ _ (fun q => D.c1 (q ▸ hc)) (hs₁.extBut _ _ (fun q => D.z2 (q ▸ hc)) e))
  refine wpAny_bind (D2.item k _ _ _ hk2 u2 fun y h₄ tk₄ hy v2 hs₄ => wpAny_pure ?_)
  have hTO₄ : IsPair h₄ TO x b := hs₄.extBut _ _ D.O2 hTO₃
  refine wpAny_bind (wpAny_seqItems hTO₄ rfl (wpAny_bind (wpAny_updateSeq_pair hTO₄ fun h₅ hTO₅ hs₅ => ?_)))
  replace hTO₅ : IsPair h₅ TO x y := hTO₅
  refine wpAny_bind (wpAny_letGo (wpAny_pure (wpAny_pure ?_))); refine wpAny_bind (wpAny_seqItems hTO₅ rfl (wpAny_bind (wpAny_newTuple ?_)))
  have hsz : h₅.objs.size = s.heap.objs.size := by rw [hs₅.1, hs₄.1, hs₃.1, hs₂.1, hs₁.1]
  have hz₅ : IsZip h₅ z TI TO .ellipsis := hs₅.extBut _ _ D.Oz.symm (hs₄.extBut _ _ D.jz.symm (hs₃.extBut _ _ D.Oz.symm (hs₂.extBut _ _ D.iz.symm hz₁)))
  have hk₅ : ∀ c o, c ≠ z → c ≠ TO → c ≠ i1 → c ≠ i2 → s.heap.get? c = some o → h₅.get? c = some o := fun c o e1 e2 e3 e4 e => hs₅.extBut _ _ e2 (hs₄.extBut _ _ e4 (hs₃.extBut _ _ e2 (hs₂.extBut _ _ e3 (hs₁.extBut _ _ e1 e))))
  have w1 : S1 (k + 1) h₅ := D1.frame _ _ _ v1 fun c hc o e => hs₅.extBut _ _ (fun q => D.o1 (q ▸ hc)) (hs₄.extBut _ _ (fun q => D.c2 (q ▸ hc)) (hs₃.extBut _ _ (fun q => D.o1 (q ▸ hc)) e))
  have w2 : S2 (k + 1) h₅ := D2.frame _ _ _ v2 fun c hc o e => hs₅.extBut _ _ (fun q => D.o2 (q ▸ hc)) e
  have hzlt : z < h₅.objs.size := Heap.lt_size hz₅
  show wpAny _ _ (Builtin.SmallTypes.ownedTupleHandOut (.ref z) (.ref h₅.objs.size) >>= _) _ _ _; refine wpAny_bind ?_; unfold Builtin.SmallTypes.ownedTupleHandOut
  have hz₆ : IsZip (h₅.push { cls := .type "tuple", data := .seq #[x, y] }) z TI TO .ellipsis := Heap.get?_push_of_some _ hz₅
  refine wpAny_bind (wpAny_setField_rec hz₆ (by simp) fun h₇ hz₇ hs₇ => ?_); replace hz₇ : IsZip h₇ z TI TO (rawInt h₅.objs.size) := hz₇
  refine wpAny_setField_rec hz₇ (by simp) fun h₈ hz₈ hs₈ => ?_; replace hz₈ : IsZip h₈ z TI TO (rawInt h₅.objs.size) := hz₈
  have up : ∀ c o, c ≠ z → h₅.get? c = some o → h₈.get? c = some o := fun c o e1 e => hs₈.extBut _ _ e1 (hs₇.extBut _ _ e1 (Heap.get?_push_of_some _ e))
  have hT₈ : IsPair h₈ h₅.objs.size x y := hs₈.extBut _ _ (Nat.ne_of_gt hzlt) (hs₇.extBut _ _ (Nat.ne_of_gt hzlt) (Heap.get?_push_size _ rfl))
  rw [hsz] at hz₈ hT₈
  refine wpAny_pure ⟨_, rfl, ?_⟩; show Q (.ref h₅.objs.size) _; rw [hsz]
  exact hQ x y h₈ _ hx hy hz₈ (up _ _ D.Oz hTO₅) (D1.frame _ _ _ w1 fun c hc o e => up c o (fun q => D.z1 (q ▸ hc)) e) (D2.frame _ _ _ w2 fun c hc o e => up c o (fun q => D.z2 (q ▸ hc)) e) hT₈ fun c o e1 e2 e3 e4 e => up c o e1 (hk₅ c o e1 e2 e3 e4 e)
theorem zipD_end {z TI TO i1 i2 : Addr} {f1 f2 : List Addr} {n1 : Nat} {P1 : Nat → Value → Prop} {S1 : Nat → Heap → Prop} {Q : Fin → Shared → Prop} (D1 : Draws prog w A i1 f1 n1 P1 S1) (D : ZipFar z TI TO i1 i2 f1 f2)
    (hz : IsZip s.heap z TI TO .none) (hTI : IsPair s.heap TI (.ref i1) (.ref i2)) (t1 : S1 n1 s.heap)
    (hE : ∀ h' e, (∀ c o, c ≠ z → c ≠ i1 → s.heap.get? c = some o → h'.get? c = some o) → (∃ o, h'.get? e = some o ∧ o.cls = .type "StopIteration") → E (.ref e) { s with heap := h' }) :
    wpAny (model prog w) A (Builtin.«zip.__next__» ⟨[.ref z], []⟩) Q E s := by
  show wpAny _ _ (field (.ref z) 2 >>= _) _ _ _; refine wpAny_bind (wpAny_field hz rfl (x := .bool false) rfl ?_); show wpAny _ _ (field (.ref z) 3 >>= _) _ _ _
  refine wpAny_bind (wpAny_field hz rfl (x := .ref TI) rfl (wpAny_bind (wpAny_seqItems hTI rfl ?_)))
  show wpAny _ _ (Builtin.SmallTypes.ownedTupleIsFree (.ref z) >>= _) _ _ _; refine wpAny_bind ?_; unfold Builtin.SmallTypes.ownedTupleIsFree
  refine wpAny_bind (wpAny_field hz rfl (x := .none) rfl (wpAny_pure ?_)); simp only [if_true]
  refine wpAny_bind (wpAny_rule (wpAny_bind (wpAny_field hz rfl (x := .ref TO) rfl (wpAny_bind (wpAny_setField_rec hz (by simp) fun h₁ hz₁ hs₁ => ?_)))))
  replace hz₁ : IsZip h₁ z TI TO .ellipsis := hz₁
  refine wpAny_bind ?_; simp only [List.zipIdx_cons, List.zipIdx_nil, List.forIn_cons, List.forIn_nil]
  refine wpAny_bind (wpAny_bind (wpAny_onRaise ?_)); show wpAny _ _ (Builtin.SmallTypes.nextOf (.ref i1) >>= _) _ _ _
  have u1 : S1 n1 h₁ := D1.frame n1 _ _ t1 fun c hc o e => hs₁.extBut _ _ (fun q => D.z1 (q ▸ hc)) e
  refine wpAny_bind (D1.done _ _ _ u1 fun h₂ e hs₂ he => ?_)
  obtain ⟨oe, hoe, hce⟩ := he
  have hz₂ : IsZip h₂ z TI TO .ellipsis := hs₂ _ _ D.iz.symm hz₁
  have hez : e ≠ z := fun x => by subst x; rw [hz₂] at hoe; cases hoe; simp at hce
  refine wpAny_setField_rec hz₂ (by simp) fun h₃ _ hs₃ => hE h₃ e (fun c o c1 c3 x => hs₃.extBut _ _ c1 (hs₂ _ _ c3 (hs₁.extBut _ _ c1 x))) ⟨oe, hs₃.extBut _ _ hez hoe, hce⟩
theorem nextZ_item {z TI TO i1 i2 : Addr} {f1 f2 : List Addr} {n1 n2 k : Nat} {P1 P2 : Nat → Value → Prop} {S1 S2 : Nat → Heap → Prop} {a b : Value} {Q : Option Value → Shared → Prop} (D1 : Draws prog w A.in1 i1 f1 n1 P1 S1) (D2 : Draws prog w A.in1 i2 f2 n2 P2 S2) (D : ZipFar z TI TO i1 i2 f1 f2)
    (hz : IsZip s.heap z TI TO .none) (hTI : IsPair s.heap TI (.ref i1) (.ref i2)) (hTO : IsPair s.heap TO a b) (t1 : S1 k s.heap) (t2 : S2 k s.heap) (hk1 : k < n1) (hk2 : k < n2)
    (hQ : ∀ x y h' tk, P1 k x → P2 k y → IsZip h' z TI TO (rawInt s.heap.objs.size) → IsPair h' TO x y → S1 (k + 1) h' → S2 (k + 1) h' → IsPair h' s.heap.objs.size x y →
      (∀ c o, c ≠ z → c ≠ TO → c ≠ i1 → c ≠ i2 → s.heap.get? c = some o → h'.get? c = some o) → Q (some (.ref s.heap.objs.size)) { s with heap := h', toks := tk }) :
    wpAny (model prog w) A (pyNext (.ref z)) Q E s := by
  have hT : s.TypeIs (.ref z) "zip" := ⟨_, hz, rfl⟩
  unfold pyNext
  exact wpAny_bind (wpAny_attempt (wpAny_callSpecial?_slot (name := Str.ofString "__next__") hT F.slot_zip_next (wpAny_call_entry F.slot_zip_next hT F.entry_zip_next
      (zipD_item D1 D2 D hz hTI hTO t1 t2 hk1 hk2 fun x y h' tk q1 q2 a1 a2 a3 a4 a5 a6 => wpAny_pure (hQ x y h' tk q1 q2 a1 a2 a3 a4 a5 a6)) (F.args_zip_next_1 _))))
theorem nextZ_end {z TI TO i1 i2 : Addr} {f1 f2 : List Addr} {n1 : Nat} {P1 : Nat → Value → Prop} {S1 : Nat → Heap → Prop} {Q : Option Value → Shared → Prop} (D1 : Draws prog w A.in1 i1 f1 n1 P1 S1) (D : ZipFar z TI TO i1 i2 f1 f2)
    (hz : IsZip s.heap z TI TO .none) (hTI : IsPair s.heap TI (.ref i1) (.ref i2)) (t1 : S1 n1 s.heap)
    (hQ : ∀ h', (∀ c o, c ≠ z → c ≠ i1 → s.heap.get? c = some o → h'.get? c = some o) → Q none { s with heap := h' }) : wpAny (model prog w) A (pyNext (.ref z)) Q E s := by
  have hT : s.TypeIs (.ref z) "zip" := ⟨_, hz, rfl⟩
  unfold pyNext
  refine wpAny_bind (wpAny_attempt (wpAny_callSpecial?_slot (name := Str.ofString "__next__") hT F.slot_zip_next (wpAny_call_entry F.slot_zip_next hT F.entry_zip_next (zipD_end D1 D hz hTI t1 fun h' e hk he => ?_) (F.args_zip_next_1 _))))
  obtain ⟨o, ho, hc⟩ := he
  exact wpAny_bind (wpAny_isInstance (T := "StopIteration") (b := true) ⟨o, ho, hc⟩ isSubtype_stop (wpAny_pure (hQ _ hk)))
end
noncomputable abbrev zT1 (h : Heap) (l1 : Addr) : Heap := h.push { cls := .type "tuple_iterator", data := .fields #[.ref l1, .int 0 0] }
noncomputable abbrev zT2 (h : Heap) (l1 l2 : Addr) : Heap := (zT1 h l1).push { cls := .type "tuple_iterator", data := .fields #[.ref l2, .int 0 0] }
noncomputable abbrev zT3 (h : Heap) (l1 l2 : Addr) : Heap := (zT2 h l1 l2).push { cls := .type "tuple", data := .seq #[.ref h.objs.size, .ref (zT1 h l1).objs.size] }
noncomputable abbrev zT4 (h : Heap) (l1 l2 : Addr) : Heap := (zT3 h l1 l2).push { cls := .type "tuple", data := .seq #[.none, .none] }
noncomputable abbrev zT5 (h : Heap) (l1 l2 : Addr) : Heap := (zT4 h l1 l2).push { cls := .type "zip", data := .fields #[.none, .bool false, .bool false, .ref (zT2 h l1 l2).objs.size, .ref (zT3 h l1 l2).objs.size] }
theorem meets_zip_newT (l1 l2 : Addr) (xs ys : Array Value) :
    Meets (Builtin.«zip.__new__» ⟨[.type "zip", .ref l1, .ref l2], []⟩) (fun _ R s => s.heap.IsTuple l1 xs ∧ s.heap.IsTuple l2 ys ∧ R (.ok (.ret (.ref (zT4 s.heap l1 l2).objs.size))) { s with heap := zT5 s.heap l1 l2 }) :=
  .of_wp fun prog w A R s h => by
    obtain ⟨hp, g, d, tk, os⟩ := s; obtain ⟨p1, p2, h⟩ := h
    have isz := sub_zip
    have q1 : Heap.IsTuple (Shared.heap ⟨hp, g, d, tk, os⟩) l1 xs := p1
    have q2 : Heap.IsTuple (Shared.heap ⟨hp.push { cls := .type "tuple_iterator", data := .fields #[.ref l1, .int 0 0] }, g, d, tk, os⟩) l2 ys := let ⟨o, ho, r⟩ := p2; ⟨o, Heap.get?_push_of_some _ ho, r⟩
    wp_walk using wpAny_pyIter_tuple q1, wpAny_pyIter_tuple q2
    exact ⟨_, rfl, h⟩
section
variable {prog : Program} {w : World} {A : Around} {E : Value → Shared → Prop} {s : Shared}
theorem call_zip_T {l1 l2 : Addr} {xs ys : Array Value} {Q : Value → Shared → Prop} (p1 : s.heap.IsTuple l1 xs) (p2 : s.heap.IsTuple l2 ys)
    (h : ∀ h', IsZip h' (s.heap.objs.size + 4) (s.heap.objs.size + 2) (s.heap.objs.size + 3) .none → IsPair h' (s.heap.objs.size + 2) (.ref s.heap.objs.size) (.ref (s.heap.objs.size + 1)) →
      IsPair h' (s.heap.objs.size + 3) .none .none → h'.IsTupleIter s.heap.objs.size l1 0 → h'.IsTupleIter (s.heap.objs.size + 1) l2 0 → h'.objs.size = s.heap.objs.size + 5 →
      (∀ c o, s.heap.get? c = some o → h'.get? c = some o) → Q (.ref (s.heap.objs.size + 4)) { s with heap := h' }) :
    wpAny (model prog w) A (call (.type "zip") [.ref l1, .ref l2]) Q E s := by
  refine callType_new F.called_zip (by decide) (F.typeCall_zip_2 _ _) (F.newCall_zip_2 _ _) (fun obj => F.args_object_init_3 obj _ _) F.entry_zip_new (meets_zip_newT l1 l2 xs ys) ⟨p1, p2, ?_⟩
  have y1 : (zT1 s.heap l1).objs.size = s.heap.objs.size + 1 := Heap.size_push ..
  have y2 : (zT2 s.heap l1 l2).objs.size = s.heap.objs.size + 2 := by rw [Heap.size_push, y1]
  have y3 : (zT3 s.heap l1 l2).objs.size = s.heap.objs.size + 3 := by rw [Heap.size_push, y2]
  have y4 : (zT4 s.heap l1 l2).objs.size = s.heap.objs.size + 4 := by rw [Heap.size_push, y3]
  have y5 : (zT5 s.heap l1 l2).objs.size = s.heap.objs.size + 5 := by rw [Heap.size_push, y4]
  have r5 : (zT5 s.heap l1 l2).get? (zT4 s.heap l1 l2).objs.size = some _ := Heap.get?_push_size _ rfl
  have r4 : (zT5 s.heap l1 l2).get? (zT3 s.heap l1 l2).objs.size = some _ := Heap.get?_push_of_some _ (Heap.get?_push_size _ rfl)
  have r3 : (zT5 s.heap l1 l2).get? (zT2 s.heap l1 l2).objs.size = some _ := Heap.get?_push_of_some _ (Heap.get?_push_of_some _ (Heap.get?_push_size _ rfl))
  have r2 : (zT5 s.heap l1 l2).get? (zT1 s.heap l1).objs.size = some _ := Heap.get?_push_of_some _ (Heap.get?_push_of_some _ (Heap.get?_push_of_some _ (Heap.get?_push_size _ rfl)))
  have r1 : (zT5 s.heap l1 l2).get? s.heap.objs.size = some _ := Heap.get?_push_of_some _ (Heap.get?_push_of_some _ (Heap.get?_push_of_some _ (Heap.get?_push_of_some _ (Heap.get?_push_size _ rfl))))
  show _ ∧ _
  rw [y2, y3, y4] at r5; rw [y1, y2] at r3; rw [y3] at r4; rw [y1] at r2; rw [y4]
  exact ⟨⟨_, r5, rfl⟩, h _ r5 r3 r4 ⟨_, r1, rfl, rfl⟩ ⟨_, r2, rfl, rfl⟩ y5 fun c o x => Heap.get?_push_of_some _ (Heap.get?_push_of_some _ (Heap.get?_push_of_some _ (Heap.get?_push_of_some _ (Heap.get?_push_of_some _ x))))⟩
end
end PySem
namespace L2
open PySem PySem.Spec PyProof.Rows
structure SeqK where
  Sq : PySem.W.Frag → Hp → Addr → List V → Prop
  isq : Heap → Addr → Array Value → Prop
  iit : Heap → Addr → Addr → Nat → Prop
structure SeqK.Ok (k : SeqK) : Prop where
  get : ∀ {X : Cx} {pins : List (Addr × Obj)} {σ : St} {H : Hp} {s : Shared} {a : Addr} {xs : List V}, Inv X pins σ H s → k.Sq X.K H a xs → ∃ its : List Value, Vals xs its ∧ k.isq s.heap a its.toArray
  inj : ∀ {X : Cx} {pins : List (Addr × Obj)} {σ : St} {H : Hp} {s : Shared} {a : Addr} {xs ys : List V}, Inv X pins σ H s → k.Sq X.K H a xs → k.Sq X.K H a ys → xs = ys
  lt : ∀ {h : Heap} {a : Addr} {its : Array Value}, k.isq h a its → a < h.objs.size
  dr : ∀ {prog : Program} {w : World} {A : Around}, A.handled = none → ∀ (it l : Addr), l ≠ it → ∀ items : Array Value, Draws prog w A it [it, l] items.size (fun i v => items[i]? = some v) (fun i h => k.iit h it l i ∧ k.isq h l items)
  obj : ∀ {h : Heap} {it l : Addr} {i : Nat}, k.iit h it l i → ∃ o, h.get? it = some o ∧ ∀ v, o.data ≠ .cell v
  «at» : ∀ {h h' : Heap} {it l : Addr} {i : Nat}, k.iit h it l i → (∀ o, h.get? it = some o → h'.get? it = some o) → k.iit h' it l i
  zip : ∀ {prog : Program} {w : World} {A : Around} {E : Value → Shared → Prop} {s : Shared} {l1 l2 : Addr} {xs ys : Array Value} {Q : Value → Shared → Prop}, k.isq s.heap l1 xs → k.isq s.heap l2 ys →
    (∀ h', IsZip h' (s.heap.objs.size + 4) (s.heap.objs.size + 2) (s.heap.objs.size + 3) .none → IsPair h' (s.heap.objs.size + 2) (.ref s.heap.objs.size) (.ref (s.heap.objs.size + 1)) → IsPair h' (s.heap.objs.size + 3) .none .none →
      k.iit h' s.heap.objs.size l1 0 → k.iit h' (s.heap.objs.size + 1) l2 0 → (∀ c o, s.heap.get? c = some o → h'.get? c = some o) → Q (.ref (s.heap.objs.size + 4)) { s with heap := h' }) → wpAny (model prog w) A (call (.type "zip") [.ref l1, .ref l2]) Q E s
noncomputable def kL : SeqK := ⟨SqL, Heap.IsList, Heap.IsListIter⟩
noncomputable def kT : SeqK := ⟨SqT, Heap.IsTuple, Heap.IsTupleIter⟩
theorem kL_ok : kL.Ok where
  get := fun I h => let ⟨its, r, p, _⟩ := I.list h; ⟨its, r, p.isList⟩
  inj := fun I h1 h2 => I.list_inj h1 h2
  lt := fun p => let ⟨o, ho, _⟩ := p; Heap.lt_size ho
  dr := fun hh it l hne items => Draws.list hh it l hne items
  obj := fun ⟨o, e, c, d⟩ => ⟨o, e, fun v z => by rw [d] at z; cases z⟩
  «at» := fun x k => Heap.IsListIter.at x k
  zip := fun p1 p2 h => call_zip_2 p1 p2 fun h' a1 a2 a3 a4 a5 _ a7 => h h' a1 a2 a3 a4 a5 a7
theorem kT_ok : kT.Ok where
  get := fun I h => let ⟨its, r, p, _⟩ := I.tuple h; ⟨its, r, p⟩
  inj := fun I h1 h2 => I.tuple_inj h1 h2
  lt := fun p => let ⟨o, ho, _⟩ := p; Heap.lt_size ho
  dr := fun hh it l hne items => Draws.tuple hh it l hne items
  obj := fun ⟨o, e, c, d⟩ => ⟨o, e, fun v z => by rw [d] at z; cases z⟩
  «at» := fun x k => Heap.IsTupleIter.at x k
  zip := fun p1 p2 h => call_zip_T p1 p2 fun h' a1 a2 a3 a4 a5 _ a7 => h h' a1 a2 a3 a4 a5 a7
noncomputable def Itz (S1 S2 : Hp → List V → Prop) : It :=
  ⟨fun i H => ∃ xs ys x y, S1 H xs ∧ S2 H ys ∧ xs[i]? = some x ∧ ys[i]? = some y, fun i H v H' => ∃ p x y, v = .ref p ∧ H p = none ∧ H' = upd H p (.tup [x, y]) ∧ (∀ xs, S1 H xs → xs[i]? = some x) ∧ ∀ ys, S2 H ys → ys[i]? = some y, fun i H => ∃ xs, S1 H xs ∧ xs.length = i⟩
theorem turn_zip {P : Program} {w : World} {K : PySem.W.Frag} {es : List Expr} {x1} {pos : Pos} {k : SeqK} (ok : k.Ok) (z TI TO i1 i2 a b : Addr) (D : ZipFar z TI TO i1 i2 [i1, a] [i2, b]) (ha : a ≠ i1) (hb : b ≠ i2) :
    Turn P w K (.Tuple es x1 pos) (Itz (fun H xs => k.Sq K H a xs) fun H ys => k.Sq K H b ys) [z, TI, TO, i1, i2] z (fun i h => IsZip h z TI TO .none ∧ IsPair h TI (.ref i1) (.ref i2) ∧ (∃ u v, IsPair h TO u v) ∧ k.iit h i1 a i ∧ k.iit h i2 b i) where
  mem := by simp
  obj := fun i h st c hc => by
    obtain ⟨hz, hTI, ⟨u, v, hTO⟩, h1, h2⟩ := st
    simp only [List.mem_cons, List.not_mem_nil, or_false] at hc
    rcases hc with rfl | rfl | rfl | rfl | rfl
    · exact ⟨_, hz, fun v z => by cases z⟩
    · exact ⟨_, hTI, fun v z => by cases z⟩
    · exact ⟨_, hTO, fun v z => by cases z⟩
    · exact ok.obj h1
    · exact ok.obj h2
  keep := fun i h h' st kp => by
    obtain ⟨hz, hTI, ⟨u, v, hTO⟩, h1, h2⟩ := st
    exact ⟨kp z (by simp) _ hz, kp TI (by simp) _ hTI, ⟨u, v, kp TO (by simp) _ hTO⟩, ok.at h1 fun o q => kp i1 (by simp) o q, ok.at h2 fun o q => kp i2 (by simp) o q⟩
  item := by
    intro X hP hw hK hc i pins s σ H E I hf st hg
    subst hP hw hK
    obtain ⟨hz, hTI, ⟨u, v, hTO⟩, h1, h2⟩ := st
    obtain ⟨xs, ys, x, y, q1, q2, e1, e2⟩ := hg
    obtain ⟨its, rv, p1⟩ := ok.get I q1
    obtain ⟨jts, rw', p2⟩ := ok.get I q2
    obtain ⟨ux, hux, rx⟩ := rv.get e1
    obtain ⟨uy, huy, ry⟩ := rw'.get e2
    have l1 : i < its.toArray.size := by rw [List.size_toArray]; exact (List.getElem?_eq_some_iff.mp hux).1
    have l2 : i < jts.toArray.size := by rw [List.size_toArray]; exact (List.getElem?_eq_some_iff.mp huy).1
    have hh : X.A.in1.handled = none := by simp [I.ok.hd hc]
    refine nextZ_item (ok.dr hh i1 a ha its.toArray) (ok.dr hh i2 b hb jts.toArray) D hz hTI hTO ⟨h1, p1⟩ ⟨h2, p2⟩ l1 l2 fun vx vy h' tk hvx hvy g1 g2 g3 g4 g5 g6 => ?_
    have ex : vx = ux := by
      have e : its[i]? = some vx := by simpa using hvx
      rw [hux] at e; exact (Option.some.inj e).symm
    have ey : vy = uy := by
      have e : jts[i]? = some vy := by simpa using hvy
      rw [huy] at e; exact (Option.some.inj e).symm
    subst ex ey
    refine ⟨_, rfl, wpAny_letOwnedTupleGo_zip (s := { s with heap := h', toks := tk }) g1 fun h2' hz2 hs2 => ?_⟩
    have hn : H s.heap.objs.size = none := I.hok.fresh (Nat.le_refl _)
    have lz : ∀ {c o}, s.heap.get? c = some o → s.heap.objs.size ≠ c := fun e => Nat.ne_of_gt (Heap.lt_size e)
    have li1 : s.heap.objs.size ≠ i1 := let ⟨o, e, _⟩ := ok.obj h1; lz e
    have li2 : s.heap.objs.size ≠ i2 := let ⟨o, e, _⟩ := ok.obj h2; lz e
    have kp : ∀ c o, c ∉ [z, TI, TO, i1, i2] → s.heap.get? c = some o → h2'.get? c = some o := fun c o hc' q => by
      have c1 : c ≠ z := fun e => hc' (by simp [e])
      exact (hs2.2 c c1).trans (g6 c o c1 (fun e => hc' (by simp [e])) (fun e => hc' (by simp [e])) (fun e => hc' (by simp [e])) q)
    have hT2 : IsPair h2' s.heap.objs.size vx vy := (hs2.2 _ (lz hz)).trans g5
    have I2 : Inv X pins σ (upd H s.heap.objs.size (.tup [x, y])) { s with heap := h2', toks := tk } := I.turnLaid (fp := [z, TI, TO, i1, i2]) kp hf (Nat.le_refl _) ⟨by show 2 ≤ sizeLine; rw [sizeLine_eq]; decide, [vx, vy], .cons rx (.cons ry .nil), ⟨_, hT2, rfl, _, rfl⟩⟩
    have hTI2 : IsPair h2' TI (.ref i1) (.ref i2) := (hs2.2 _ D.Iz).trans (g6 _ _ D.Iz D.IO D.I1 D.I2 hTI)
    refine ⟨.ref s.heap.objs.size, _, I2, rfl, ⟨s.heap.objs.size, x, y, rfl, hn, rfl, fun zs hz' => by rw [ok.inj I hz' q1]; exact e1, fun zs hz' => by rw [ok.inj I hz' q2]; exact e2⟩, ⟨hz2, hTI2, ⟨_, _, (hs2.2 _ D.Oz).trans g2⟩, ok.at g3.1 fun o q => (hs2.2 _ D.iz).trans q, ok.at g4.1 fun o q => (hs2.2 _ D.jz).trans q⟩, fun c hc' => ?_⟩
    have hcz : c ≠ s.heap.objs.size := by
      simp only [List.mem_cons, List.not_mem_nil, or_false] at hc'
      rcases hc' with rfl | rfl | rfl | rfl | rfl
      · exact (lz hz).symm
      · exact (lz hTI).symm
      · exact (lz hTO).symm
      · exact li1.symm
      · exact li2.symm
    rw [upd_ne hcz]; exact (hf c hc').1
  done := by
    intro X hP hw hK hc i pins s σ H E I hf st hg
    subst hP hw hK
    obtain ⟨hz, hTI, ⟨u, v, hTO⟩, h1, h2⟩ := st
    obtain ⟨xs, q1, hx⟩ := hg
    obtain ⟨its, rv, p1⟩ := ok.get I q1
    have hl := rv.length
    have hi : its.toArray.size = i := by rw [List.size_toArray, ← hl, hx]
    have hh : X.A.in1.handled = none := by simp [I.ok.hd hc]
    refine nextZ_end (ok.dr hh i1 a ha its.toArray) D hz hTI (by rw [hi]; exact ⟨h1, p1⟩) fun h' hk => ⟨rfl, ?_⟩
    exact I.turnedL (fp := [z, TI, TO, i1, i2]) (t' := s.toks) (fun c o hc' q => hk c o (fun e => hc' (by simp [e])) (fun e => hc' (by simp [e])) q) hf
  self := fun _ _ _ _ _ st h => wpAny_pyIter_zip st.1 h
noncomputable def iZip (k : SeqK) (K : PySem.W.Frag) (ta : TA) : TI := fun σ H R => ta σ H fun vs H1 => ∃ a b xs ys, vs = [.ref a, .ref b] ∧ k.Sq K H1 a xs ∧ k.Sq K H1 b ys ∧ R (Itz (fun H xs => k.Sq K H a xs) fun H ys => k.Sq K H b ys) H1
section
variable {X : Cx}
theorem pi_zip {a b : Expr} {ta : TA} {p pos : Pos} {es : List Expr} {x1} {tpos : Pos} {k : SeqK} (ok : k.Ok) (hg : Gl X "zip") (hm : X.mg "zip" = none) (ha : PA X [a, b] ta) (hs : starEach [a, b] X.env = [(false, eval a X.env), (false, eval b X.env)] := by rfl) (hs2 : starEach [b] X.env = [(false, eval b X.env)] := by rfl) :
    PI X (.Tuple es x1 tpos) (.Call (.Name "zip" p) [a, b] [] pos) (iZip k X.K ta) := by
  intro pins s σ H R I h
  refine Call_ (ld_blt I hg hm boot_zip (PyProof.Rows.callWith_type1 (thn (ha pos pins s σ H _ I h) fun us s1 ⟨vs, H1, I1, r1, q1⟩ => ?_) (by rw [hs, hs2]) (by rw [hs2]; rfl)))
  obtain ⟨a', b', xs, ys, e, q1, q2, q⟩ := q1
  subst e
  obtain ⟨u, v, rfl, rx, ry⟩ := vals2 r1
  cases rx
  cases ry
  obtain ⟨its, rv, p1⟩ := ok.get I1 q1
  obtain ⟨jts, rw', p2⟩ := ok.get I1 q2
  have l1 := ok.lt p1
  have l2 := ok.lt p2
  refine ok.zip p1 p2 fun h' a1 a2 a3 a4 a5 a7 => ?_
  refine wpAny_pyIter_zip (s := { s1 with heap := h' }) a1 ?_
  have I2 : Inv X pins σ H1 { s1 with heap := h' } := I1.kept (t' := s1.toks) a7
  have far := zipFar_new s1.heap.objs.size a' b' l1 l2
  refine ⟨s1.heap.objs.size + 4, [s1.heap.objs.size + 4, s1.heap.objs.size + 2, s1.heap.objs.size + 3, s1.heap.objs.size, s1.heap.objs.size + 1], _, _, H1, rfl, I2, turn_zip ok _ _ _ _ _ a' b' far (Nat.ne_of_lt l1) (Nat.ne_of_lt (Nat.lt_succ_of_lt l2)), ⟨a1, a2, ⟨_, _, a3⟩, a4, a5⟩, fun c hc' => ?_, q⟩
  have hge : s1.heap.objs.size ≤ c := by
    simp only [List.mem_cons, List.not_mem_nil, or_false] at hc'
    rcases hc' with rfl | rfl | rfl | rfl | rfl
    · exact Nat.le_add_right _ 4
    · exact Nat.le_add_right _ 2
    · exact Nat.le_add_right _ 3
    · exact Nat.le_refl _
    · exact Nat.le_succ _
  exact I1.fpOk hge (I1.hok.fresh hge)
theorem for_zip {S1 S2 : Hp → List V → Prop} {xs ys : List V} {g : TG} {tb : TS} {D : Ends} {σ : St} {H : Hp} (hlen : xs.length = ys.length) (Pv : Nat → St → Hp → Prop) (h0 : Pv 0 σ H) (hl : ∀ i σ H, Pv i σ H → S1 H xs ∧ S2 H ys)
    (hs : ∀ i x y p σ H, xs[i]? = some x → ys[i]? = some y → Pv i σ H → H p = none → g (.ref p) σ (upd H p (.tup [x, y])) fun σ2 H2 => tb { D with nx := Pv (i + 1), ct := Pv (i + 1), bk := D.nx } σ2 H2) (hd : ∀ σ H, Pv xs.length σ H → D.nx σ H) :
    tForJ (Itz S1 S2) g tb D σ H := by
  refine ⟨fun i m σ H => m = xs.length - i ∧ i ≤ xs.length ∧ Pv i σ H, ⟨xs.length, by simp, Nat.zero_le _, h0⟩, ?_⟩
  rintro i m σ H ⟨rfl, hi, p⟩
  obtain ⟨q1, q2⟩ := hl i σ H p
  by_cases hlt : i < xs.length
  · have hlt2 : i < ys.length := by omega
    refine .inr ⟨⟨xs, ys, xs[i], ys[i], q1, q2, by simp [hlt], by simp [hlt2]⟩, Pv (i + 1), fun σ' H' p' => ⟨xs.length - (i + 1), by omega, rfl, hlt, p'⟩, fun x H' y => ?_⟩
    obtain ⟨pp, a, b, e1, e2, e3, e4, e5⟩ := y
    subst e1 e3
    exact hs i a b pp σ H (e4 xs q1) (e5 ys q2) p e2
  · have e : i = xs.length := by omega
    subst e
    exact .inl ⟨⟨xs, q1, rfl⟩, hd σ H p⟩
end
end L2
namespace PySem
section
variable {prog : Program} {w : World} {A : Around} {E : Value → Shared → Prop} {s : Shared}
theorem zipD_end2 {z TI TO i1 i2 : Addr} {f1 f2 : List Addr} {n1 n2 : Nat} {P1 P2 : Nat → Value → Prop} {S1 S2 : Nat → Heap → Prop} {a b : Value} {Q : Fin → Shared → Prop} (D1 : Draws prog w A i1 f1 n1 P1 S1) (D2 : Draws prog w A i2 f2 n2 P2 S2) (D : ZipFar z TI TO i1 i2 f1 f2)
    (hz : IsZip s.heap z TI TO .none) (hTI : IsPair s.heap TI (.ref i1) (.ref i2)) (hTO : IsPair s.heap TO a b) (t1 : S1 n2 s.heap) (t2 : S2 n2 s.heap) (hk1 : n2 < n1)
    (hE : ∀ h' e tk, (∀ c o, c ≠ z → c ≠ TO → c ≠ i1 → c ≠ i2 → s.heap.get? c = some o → h'.get? c = some o) → (∃ o, h'.get? e = some o ∧ o.cls = .type "StopIteration") → E (.ref e) { s with heap := h', toks := tk }) :
    wpAny (model prog w) A (Builtin.«zip.__next__» ⟨[.ref z], []⟩) Q E s := by
  show wpAny _ _ (field (.ref z) 2 >>= _) _ _ _; refine wpAny_bind (wpAny_field hz rfl (x := .bool false) rfl ?_); show wpAny _ _ (field (.ref z) 3 >>= _) _ _ _
  refine wpAny_bind (wpAny_field hz rfl (x := .ref TI) rfl (wpAny_bind (wpAny_seqItems hTI rfl ?_)))
  show wpAny _ _ (Builtin.SmallTypes.ownedTupleIsFree (.ref z) >>= _) _ _ _; refine wpAny_bind ?_; unfold Builtin.SmallTypes.ownedTupleIsFree
  refine wpAny_bind (wpAny_field hz rfl (x := .none) rfl (wpAny_pure ?_)); simp only [if_true]
  refine wpAny_bind (wpAny_rule (wpAny_bind (wpAny_field hz rfl (x := .ref TO) rfl (wpAny_bind (wpAny_setField_rec hz (by simp) fun h₁ hz₁ hs₁ => ?_)))))
  replace hz₁ : IsZip h₁ z TI TO .ellipsis := hz₁
  refine wpAny_bind ?_; simp only [List.zipIdx_cons, List.zipIdx_nil, List.forIn_cons, List.forIn_nil]
  refine wpAny_bind (wpAny_bind (wpAny_onRaise ?_)); show wpAny _ _ (Builtin.SmallTypes.nextOf (.ref i1) >>= _) _ _ _
  have u1 : S1 n2 h₁ := D1.frame n2 _ _ t1 fun c hc o e => hs₁.extBut _ _ (fun q => D.z1 (q ▸ hc)) e
  refine wpAny_bind (D1.item n2 _ _ _ hk1 u1 fun x h₂ tk₂ hx v1 hs₂ => wpAny_pure ?_)
  have hTO₂ : IsPair h₂ TO a b := hs₂.extBut _ _ D.O1 (hs₁.extBut _ _ D.Oz hTO)
  refine wpAny_bind (wpAny_seqItems hTO₂ rfl (wpAny_bind (wpAny_updateSeq_pair hTO₂ fun h₃ hTO₃ hs₃ => ?_)))
  refine wpAny_bind (wpAny_letGo (wpAny_pure ?_)); refine wpAny_bind (wpAny_bind (wpAny_onRaise ?_)); show wpAny _ _ (Builtin.SmallTypes.nextOf (.ref i2) >>= _) _ _ _
  have u2 : S2 n2 h₃ := D2.frame n2 _ _ t2 fun c hc o e => hs₃.extBut _ _ (fun q => D.o2 (q ▸ hc)) (hs₂.extBut _ _ (fun q => D.c1 (q ▸ hc)) (hs₁.extBut _ _ (fun q => D.z2 (q ▸ hc)) e))
  refine wpAny_bind (D2.done _ _ _ u2 fun h₄ e hs₄ he => ?_)
  obtain ⟨oe, hoe, hce⟩ := he
  have hz₄ : IsZip h₄ z TI TO .ellipsis := hs₄ _ _ D.jz.symm (hs₃.extBut _ _ D.Oz.symm (hs₂.extBut _ _ D.iz.symm hz₁))
  have hez : e ≠ z := fun x => by subst x; rw [hz₄] at hoe; cases hoe; simp at hce
  refine wpAny_setField_rec hz₄ (by simp) fun h₅ _ hs₅ => hE h₅ e _ (fun c o c1 c2 c3 c4 x => hs₅.extBut _ _ c1 (hs₄ _ _ c4 (hs₃.extBut _ _ c2 (hs₂.extBut _ _ c3 (hs₁.extBut _ _ c1 x))))) ⟨oe, hs₅.extBut _ _ hez hoe, hce⟩
theorem nextZ_end2 {z TI TO i1 i2 : Addr} {f1 f2 : List Addr} {n1 n2 : Nat} {P1 P2 : Nat → Value → Prop} {S1 S2 : Nat → Heap → Prop} {a b : Value} {Q : Option Value → Shared → Prop} (D1 : Draws prog w A.in1 i1 f1 n1 P1 S1) (D2 : Draws prog w A.in1 i2 f2 n2 P2 S2) (D : ZipFar z TI TO i1 i2 f1 f2)
    (hz : IsZip s.heap z TI TO .none) (hTI : IsPair s.heap TI (.ref i1) (.ref i2)) (hTO : IsPair s.heap TO a b) (t1 : S1 n2 s.heap) (t2 : S2 n2 s.heap) (hk1 : n2 < n1)
    (hQ : ∀ h' tk, (∀ c o, c ≠ z → c ≠ TO → c ≠ i1 → c ≠ i2 → s.heap.get? c = some o → h'.get? c = some o) → Q none { s with heap := h', toks := tk }) : wpAny (model prog w) A (pyNext (.ref z)) Q E s := by
  have hT : s.TypeIs (.ref z) "zip" := ⟨_, hz, rfl⟩
  unfold pyNext
  refine wpAny_bind (wpAny_attempt (wpAny_callSpecial?_slot (name := Str.ofString "__next__") hT F.slot_zip_next (wpAny_call_entry F.slot_zip_next hT F.entry_zip_next (zipD_end2 D1 D2 D hz hTI hTO t1 t2 hk1 fun h' e tk hk he => ?_) (F.args_zip_next_1 _))))
  obtain ⟨o, ho, hc⟩ := he
  exact wpAny_bind (wpAny_isInstance (T := "StopIteration") (b := true) ⟨o, ho, hc⟩ isSubtype_stop (wpAny_pure (hQ _ _ hk)))
end
end PySem
namespace L2
open PySem PySem.Spec PyProof.Rows
noncomputable def Itz2 (S1 S2 : Hp → List V → Prop) : It := ⟨(Itz S1 S2).go, (Itz S1 S2).yld, fun i H => ∃ xs ys, S1 H xs ∧ S2 H ys ∧ ys.length = i ∧ i < xs.length⟩
theorem turn_zip2 {P : Program} {w : World} {K : PySem.W.Frag} {es : List Expr} {x1} {pos : Pos} {k : SeqK} (ok : k.Ok) (z TI TO i1 i2 a b : Addr) (D : ZipFar z TI TO i1 i2 [i1, a] [i2, b]) (ha : a ≠ i1) (hb : b ≠ i2) :
    Turn P w K (.Tuple es x1 pos) (Itz2 (fun H xs => k.Sq K H a xs) fun H ys => k.Sq K H b ys) [z, TI, TO, i1, i2] z (fun i h => IsZip h z TI TO .none ∧ IsPair h TI (.ref i1) (.ref i2) ∧ (∃ u v, IsPair h TO u v) ∧ k.iit h i1 a i ∧ k.iit h i2 b i) where
  mem := by simp
  obj := (turn_zip (P := P) (w := w) (K := K) (es := es) (x1 := x1) (pos := pos) ok z TI TO i1 i2 a b D ha hb).obj
  keep := (turn_zip (P := P) (w := w) (K := K) (es := es) (x1 := x1) (pos := pos) ok z TI TO i1 i2 a b D ha hb).keep
  item := (turn_zip (P := P) (w := w) (K := K) (es := es) (x1 := x1) (pos := pos) ok z TI TO i1 i2 a b D ha hb).item
  done := by
    intro X hP hw hK hc i pins s σ H E I hf st hg
    subst hP hw hK
    obtain ⟨hz, hTI, ⟨u, v, hTO⟩, h1, h2⟩ := st
    obtain ⟨xs, ys, q1, q2, hy, hx⟩ := hg
    obtain ⟨its, rv, p1⟩ := ok.get I q1
    obtain ⟨jts, rw', p2⟩ := ok.get I q2
    have hl := rv.length
    have hl2 := rw'.length
    have hi2 : jts.toArray.size = i := by rw [List.size_toArray, ← hl2, hy]
    have hi1 : i < its.toArray.size := by rw [List.size_toArray, ← hl]; exact hx
    have hh : X.A.in1.handled = none := by simp [I.ok.hd hc]
    refine nextZ_end2 (ok.dr hh i1 a ha its.toArray) (ok.dr hh i2 b hb jts.toArray) D hz hTI hTO (by rw [hi2]; exact ⟨h1, p1⟩) (by rw [hi2]; exact ⟨h2, p2⟩) (by rw [hi2]; exact hi1) fun h' tk hk => ⟨rfl, ?_⟩
    exact I.turnedL (fp := [z, TI, TO, i1, i2]) (t' := tk) (fun c o hc' q => hk c o (fun e => hc' (by simp [e])) (fun e => hc' (by simp [e])) (fun e => hc' (by simp [e])) (fun e => hc' (by simp [e])) q) hf
  self := (turn_zip (P := P) (w := w) (K := K) (es := es) (x1 := x1) (pos := pos) ok z TI TO i1 i2 a b D ha hb).self
noncomputable def iZip2 (k : SeqK) (K : PySem.W.Frag) (ta : TA) : TI := fun σ H R => ta σ H fun vs H1 => ∃ a b xs ys, vs = [.ref a, .ref b] ∧ k.Sq K H1 a xs ∧ k.Sq K H1 b ys ∧ R (Itz2 (fun H xs => k.Sq K H a xs) fun H ys => k.Sq K H b ys) H1
section
variable {X : Cx}
theorem pi_zip2 {a b : Expr} {ta : TA} {p pos : Pos} {es : List Expr} {x1} {tpos : Pos} {k : SeqK} (ok : k.Ok) (hg : Gl X "zip") (hm : X.mg "zip" = none) (ha : PA X [a, b] ta) (hs : starEach [a, b] X.env = [(false, eval a X.env), (false, eval b X.env)] := by rfl) (hs2 : starEach [b] X.env = [(false, eval b X.env)] := by rfl) :
    PI X (.Tuple es x1 tpos) (.Call (.Name "zip" p) [a, b] [] pos) (iZip2 k X.K ta) := by
  intro pins s σ H R I h
  refine Call_ (ld_blt I hg hm boot_zip (PyProof.Rows.callWith_type1 (thn (ha pos pins s σ H _ I h) fun us s1 ⟨vs, H1, I1, r1, q1⟩ => ?_) (by rw [hs, hs2]) (by rw [hs2]; rfl)))
  obtain ⟨a', b', xs, ys, e, q1, q2, q⟩ := q1
  subst e
  obtain ⟨u, v, rfl, rx, ry⟩ := vals2 r1
  cases rx
  cases ry
  obtain ⟨its, rv, p1⟩ := ok.get I1 q1
  obtain ⟨jts, rw', p2⟩ := ok.get I1 q2
  have l1 := ok.lt p1
  have l2 := ok.lt p2
  refine ok.zip p1 p2 fun h' a1 a2 a3 a4 a5 a7 => ?_
  refine wpAny_pyIter_zip (s := { s1 with heap := h' }) a1 ?_
  have I2 : Inv X pins σ H1 { s1 with heap := h' } := I1.kept (t' := s1.toks) a7
  have far := zipFar_new s1.heap.objs.size a' b' l1 l2
  refine ⟨s1.heap.objs.size + 4, [s1.heap.objs.size + 4, s1.heap.objs.size + 2, s1.heap.objs.size + 3, s1.heap.objs.size, s1.heap.objs.size + 1], _, _, H1, rfl, I2, turn_zip2 ok _ _ _ _ _ a' b' far (Nat.ne_of_lt l1) (Nat.ne_of_lt (Nat.lt_succ_of_lt l2)), ⟨a1, a2, ⟨_, _, a3⟩, a4, a5⟩, fun c hc' => ?_, q⟩
  have hge : s1.heap.objs.size ≤ c := by
    simp only [List.mem_cons, List.not_mem_nil, or_false] at hc'
    rcases hc' with rfl | rfl | rfl | rfl | rfl
    · exact Nat.le_add_right _ 4
    · exact Nat.le_add_right _ 2
    · exact Nat.le_add_right _ 3
    · exact Nat.le_refl _
    · exact Nat.le_succ _
  exact I1.fpOk hge (I1.hok.fresh hge)
theorem for_zip2 {S1 S2 : Hp → List V → Prop} {xs ys : List V} {g : TG} {tb : TS} {D : Ends} {σ : St} {H : Hp} (hlen : ys.length < xs.length) (Pv : Nat → St → Hp → Prop) (h0 : Pv 0 σ H) (hl : ∀ i σ H, Pv i σ H → S1 H xs ∧ S2 H ys)
    (hs : ∀ i x y p σ H, xs[i]? = some x → ys[i]? = some y → Pv i σ H → H p = none → g (.ref p) σ (upd H p (.tup [x, y])) fun σ2 H2 => tb { D with nx := Pv (i + 1), ct := Pv (i + 1), bk := D.nx } σ2 H2) (hd : ∀ σ H, Pv ys.length σ H → D.nx σ H) :
    tForJ (Itz2 S1 S2) g tb D σ H := by
  refine ⟨fun i m σ H => m = ys.length - i ∧ i ≤ ys.length ∧ Pv i σ H, ⟨ys.length, by simp, Nat.zero_le _, h0⟩, ?_⟩
  rintro i m σ H ⟨rfl, hi, p⟩
  obtain ⟨q1, q2⟩ := hl i σ H p
  by_cases hlt2 : i < ys.length
  · have hlt : i < xs.length := by omega
    refine .inr ⟨⟨xs, ys, xs[i], ys[i], q1, q2, by simp [hlt], by simp [hlt2]⟩, Pv (i + 1), fun σ' H' p' => ⟨ys.length - (i + 1), by omega, rfl, hlt2, p'⟩, fun x H' y => ?_⟩
    obtain ⟨pp, a, b, e1, e2, e3, e4, e5⟩ := y
    subst e1 e3
    exact hs i a b pp σ H (e4 xs q1) (e5 ys q2) p e2
  · have e : i = ys.length := by omega
    subst e
    exact .inl ⟨⟨xs, ys, q1, q2, rfl, hlen⟩, hd σ H p⟩
end
end L2
namespace PySem
section
variable {prog : Program} {w : World} {A : Around} {E : Value → Shared → Prop} {s : Shared}
theorem rawItems_call {d : Addr} {o : Obj} {Q : Value → Shared → Prop} (ho : s.heap.get? d = some o) (hx : o.ExactDict) (hd : (d == sysModules) = false) (h : Q (.ref s.heap.objs.size) { s with heap := s.heap.push { cls := .type "dict_items", data := .fields #[.ref d] } }) :
    wpAny (model prog w) A (call (.builtin "dict.items") [.ref d]) Q E s := by
  have hT : s.TypeIs (.ref d) "dict" := ⟨o, ho, hx.1⟩
  refine wpAny_call_entry F.slot_dict_items hT F.entry_dict_items ?_ (F.args_dict_items_1 _)
  unfold Builtin.«dict.items»; refine wpAny_bind ?_; unfold Builtin.Dict.noArgs
  refine wpAny_bind (wpAny_notOrdered_dict hT ?_); show wpAny _ _ (pure d) _ _ s; refine wpAny_pure ?_
  show wpAny _ _ (Builtin.Dict.showsAll d >>= _) _ _ s; unfold Builtin.Dict.showsAll
  rw [if_neg (by rw [hd]; exact Bool.false_ne_true)]; refine wpAny_bind (wpAny_pure ?_)
  exact wpAny_bind (wpAny_newObj_type (wpAny_pure ⟨_, rfl, h⟩))
theorem rawItems_iter {v d : Addr} {o : Obj} {es : Array DictEntry} {ep : Nat} {Q : Value → Shared → Prop} (hv : s.heap.IsItemsView v d) (ho : s.heap.get? d = some o) (hd : o.data = .dict es ep)
    (hQ : Q (.ref s.heap.objs.size) { s with heap := s.heap.push { cls := .type "dict_itemiterator", data := .fields #[.none, .bool false, .ref d, .int 0 0, .int es.size 0, .int ep 0, .none, .none] } }) :
    wpAny (model prog w) A (pyIter (.ref v)) Q E s := by
  obtain ⟨ov, hov, hcv, hdv⟩ := id hv
  refine wpAny_pyIter_slot hv.typeIs F.slot_dict_items_iter (wpAny_call_entry F.slot_dict_items_iter hv.typeIs F.entry_dict_items_iter ?_ (F.args_dict_items_iter_1 _))
  unfold Builtin.«dict_items.__iter__»; refine wpAny_bind (wpAny_pure ?_); refine wpAny_bind ?_; unfold Builtin.Dict_items.dictOf
  refine wpAny_bind (wpAny_field hov hdv (x := .ref d) rfl (wpAny_pure ?_)); refine wpAny_bind ?_; unfold Builtin.Dict_items.newIterator
  refine wpAny_bind (wpAny_dictEntries ho hd (wpAny_bind (wpAny_dictEpoch ho hd ?_)))
  simp only [show Builtin.Dict_items.ownsTuple "dict_itemiterator" = true by decide, if_true]
  refine wpAny_newObj_type (wpAny_pure ⟨_, rfl, "dict_itemiterator", _, ⟨_, Heap.get?_push_size _ rfl, rfl⟩, F.slot_dict_itemiterator_next.lookup, ?_⟩) (by simp only [sizeOk, Builtin.Dict_items.ownedTupleFields, List.size_toArray, List.length_append, List.length_cons, List.length_nil, sizeLine_eq]; omega)
  simpa [rawInt, Builtin.Dict_items.ownedTupleFields] using hQ
theorem rawItems_item {it d : Addr} {i ep : Nat} {o : Obj} {es : Array DictEntry} {ok ov : Value} {Q : Option Value → Shared → Prop} (hit : IsItemIter s.heap it d i es.size ep ok ov) (ho : s.heap.get? d = some o) (hd : o.data = .dict es ep) (hi : i < es.size)
    (hQ : ∀ h', IsItemIterOut h' it d (i + 1) es.size ep es[i].key es[i].val s.heap.objs.size → h'.get? s.heap.objs.size = some { cls := .type "tuple", data := .seq #[es[i].key, es[i].val] } → h'.objs.size = s.heap.objs.size + 1 →
      (∀ b o, b ≠ it → s.heap.get? b = some o → h'.get? b = some o) → Q (some (.ref s.heap.objs.size)) { s with heap := h' }) : wpAny (model prog w) A (pyNext (.ref it)) Q E s := by
  obtain ⟨hp, g, dr, tk, os⟩ := s
  have hT : Shared.TypeIs ⟨hp, g, dr, tk, os⟩ (.ref it) "dict_itemiterator" := ⟨_, hit, rfl⟩
  unfold pyNext
  refine wpAny_bind (wpAny_attempt (wpAny_callSpecial?_slot (name := Str.ofString "__next__") hT F.slot_dict_itemiterator_next (wpAny_call_entry F.slot_dict_itemiterator_next hT F.entry_dict_itemiterator_next ?_ (F.args_dict_itemiterator_next_1 _))))
  refine wpAny_bind (wpAny_pure ?_); refine wpAny_bind ?_; refine wpAny_bind ?_
  first | (refine wpAny_bind (wpAny_typeNameOfWhole_itemiter hT (wpAny_pure ?_)); skip) | (refine wpAny_bind (wpAny_typeNameOf_itemiter hT (wpAny_pure ?_)); skip)
  refine wpAny_bind (wpAny_fieldsOf hit rfl ?_); simp only [show Builtin.Dict_items.ownsTuple "dict_itemiterator" = true by decide, if_true]
  show wpAny _ _ (if (Value.ref d == Value.none) = true then _ else _) _ _ _; rw [if_neg (show ¬ ((Value.ref d == Value.none) = true) from Bool.false_ne_true)]
  refine wpAny_bind (wpAny_pure ?_); refine wpAny_bind (wpAny_dictEntries ho hd ?_); rw [if_neg (by simp)]
  refine wpAny_bind (wpAny_pure ?_); refine wpAny_bind (wpAny_dictEpoch ho hd ?_); rw [if_neg (by simp)]; refine wpAny_pure ?_
  simp only [show ¬ ((i : Int) < 0) by omega, if_false, Int.toNat_natCast, Array.getElem?_eq_getElem hi]; refine wpAny_bind ?_
  first | (refine wpAny_bind (wpAny_typeNameOfWhole_itemiter hT (wpAny_pure ?_)); skip) | (refine wpAny_bind (wpAny_typeNameOf_itemiter hT (wpAny_pure ?_)); skip)
  refine wpAny_bind (wpAny_isOneOf_itemiter hT ?_); show wpAny _ _ (setField (.ref it) 3 (rawInt ((i : Int) + 1)) >>= _) _ _ ⟨hp, g, dr, tk, os⟩
  refine wpAny_bind (wpAny_setField_rec hit (by simp) fun h₁ he₁ hs₁ => ?_); replace hs₁ : Heap.SameBut it hp h₁ := hs₁
  replace he₁ : IsItemIter h₁ it d (i + 1) es.size ep ok ov := by
    have e : ((i + 1 : Nat) : Int) = (i : Int) + 1 := by omega
    unfold IsItemIter; rw [e]; simpa [rawInt] using he₁
  have hT₁ : Shared.TypeIs ⟨h₁, g, dr, tk, os⟩ (.ref it) "dict_itemiterator" := ⟨_, he₁, rfl⟩
  refine wpAny_bind (wpAny_holding ?_); refine wpAny_bind (wpAny_isOneOf_itemiter hT₁ (wpAny_bind (wpAny_isOneOf_itemiter hT₁ ?_)))
  show wpAny _ _ (Builtin.Dict_items.pairFromOwner (.ref it) 6 es[i].key es[i].val) _ _ ⟨h₁, g, dr, tk, os⟩; unfold Builtin.Dict_items.pairFromOwner
  refine wpAny_bind (wpAny_newTuple ?_)
  have he₂ : IsItemIter (h₁.push { cls := .type "tuple", data := .seq #[es[i].key, es[i].val] }) it d (i + 1) es.size ep ok ov := Heap.get?_push_of_some _ he₁
  generalize hh₂ : h₁.push { cls := .type "tuple", data := .seq #[es[i].key, es[i].val] } = h₂ at he₂
  have hz₁ : h₁.objs.size = hp.objs.size := hs₁.1
  have hil := Heap.lt_size hit
  have ht₂ : h₂.get? hp.objs.size = some { cls := .type "tuple", data := .seq #[es[i].key, es[i].val] } := by rw [← hh₂, ← hz₁]; exact Heap.get?_push_size _ rfl
  have hz₂ : h₂.objs.size = hp.objs.size + 1 := by rw [← hh₂, Heap.size_push, hz₁]
  have hk₂ : ∀ b o, b ≠ it → hp.get? b = some o → h₂.get? b = some o := fun b o hb e => by rw [← hh₂]; exact Heap.get?_push_of_some _ (hs₁.extBut b o hb e)
  show wpAny _ _ (Builtin.Dict_items.ownedTupleIsFree (.ref it) >>= _) _ _ ⟨h₂, g, dr, tk, os⟩; rw [hz₁]
  clear hh₂ he₁ hs₁ hT₁ hz₁ h₁
  refine wpAny_bind ?_; unfold Builtin.Dict_items.ownedTupleIsFree
  refine wpAny_bind (wpAny_field he₂ rfl (x := .none) rfl (wpAny_pure ?_)); simp only [if_true]
  refine wpAny_bind (wpAny_field he₂ rfl (x := ok) rfl (wpAny_bind (wpAny_field he₂ rfl (x := ov) rfl ?_)))
  refine wpAny_bind (wpAny_setField_rec he₂ (by simp) fun h₃ he₃ hs₃ => ?_); replace hs₃ : Heap.SameBut it h₂ h₃ := hs₃
  replace he₃ : IsItemIter h₃ it d (i + 1) es.size ep es[i].key ov := he₃
  refine wpAny_bind (wpAny_setField_rec he₃ (by simp) fun h₄ he₄ hs₄ => ?_); replace hs₄ : Heap.SameBut it h₃ h₄ := hs₄
  replace he₄ : IsItemIter h₄ it d (i + 1) es.size ep es[i].key es[i].val := he₄
  refine wpAny_bind (wpAny_setField_rec he₄ (by simp) fun h₅ he₅ hs₅ => ?_); replace hs₅ : Heap.SameBut it h₄ h₅ := hs₅
  replace he₅ : IsItemIterOut h₅ it d (i + 1) es.size ep es[i].key es[i].val hp.objs.size := he₅
  refine wpAny_bind (wpAny_setField_rec he₅ (by simp) fun h₆ he₆ hs₆ => ?_); replace hs₆ : Heap.SameBut it h₅ h₆ := hs₆
  replace he₆ : IsItemIterOut h₆ it d (i + 1) es.size ep es[i].key es[i].val hp.objs.size := he₆
  refine wpAny_bind (wpAny_letGo (wpAny_pure (wpAny_pure ⟨_, rfl, wpAny_pure (hQ h₆ he₆ ?_ ?_ ?_)⟩)))
  · have ne := Nat.ne_of_gt hil
    exact hs₆.extBut _ _ ne (hs₅.extBut _ _ ne (hs₄.extBut _ _ ne (hs₃.extBut _ _ ne ht₂)))
  · show h₆.objs.size = _
    rw [hs₆.1, hs₅.1, hs₄.1, hs₃.1, hz₂]
  · exact fun b o hb e => hs₆.extBut b o hb (hs₅.extBut b o hb (hs₄.extBut b o hb (hs₃.extBut b o hb (hk₂ b o hb e))))
theorem rawItems_end {it d : Addr} {i ep : Nat} {o : Obj} {es : Array DictEntry} {ok ov : Value} {Q : Option Value → Shared → Prop} (hh : A.handled = none) (hit : IsItemIter s.heap it d i es.size ep ok ov) (ho : s.heap.get? d = some o) (hd : o.data = .dict es ep) (hi : es.size ≤ i)
    (hQ : ∀ h', Heap.ExtBut it s.heap h' → Q none { s with heap := h' }) : wpAny (model prog w) A (pyNext (.ref it)) Q E s := by
  have hT : s.TypeIs (.ref it) "dict_itemiterator" := ⟨_, hit, rfl⟩
  unfold pyNext
  refine wpAny_bind (wpAny_attempt (wpAny_callSpecial?_slot (name := Str.ofString "__next__") hT F.slot_dict_itemiterator_next (wpAny_call_entry F.slot_dict_itemiterator_next hT F.entry_dict_itemiterator_next ?_ (F.args_dict_itemiterator_next_1 _))))
  refine wpAny_bind (wpAny_pure ?_); refine wpAny_bind ?_; refine wpAny_bind ?_
  first | (refine wpAny_bind (wpAny_typeNameOfWhole_itemiter hT (wpAny_pure ?_)); skip) | (refine wpAny_bind (wpAny_typeNameOf_itemiter hT (wpAny_pure ?_)); skip)
  refine wpAny_bind (wpAny_fieldsOf hit rfl ?_); simp only [show Builtin.Dict_items.ownsTuple "dict_itemiterator" = true by decide, if_true]
  show wpAny _ _ (if (Value.ref d == Value.none) = true then _ else _) _ _ s; rw [if_neg (show ¬ ((Value.ref d == Value.none) = true) from Bool.false_ne_true)]
  refine wpAny_bind (wpAny_pure ?_); refine wpAny_bind (wpAny_dictEntries ho hd ?_); rw [if_neg (by simp)]
  refine wpAny_bind (wpAny_pure ?_); refine wpAny_bind (wpAny_dictEpoch ho hd ?_); rw [if_neg (by simp)]; refine wpAny_pure ?_
  simp only [show ¬ ((i : Int) < 0) by omega, if_false, Int.toNat_natCast, Array.getElem?_eq_none hi]; refine wpAny_bind ?_
  first | (refine wpAny_bind (wpAny_typeNameOfWhole_itemiter hT (wpAny_pure ?_)); skip) | (refine wpAny_bind (wpAny_typeNameOf_itemiter hT (wpAny_pure ?_)); skip)
  show wpAny _ _ (setField (.ref it) 2 .none >>= _) _ _ s; refine wpAny_bind (wpAny_setField hit rfl (by simp) ?_)
  show wpAny _ _ (newExc (.type "StopIteration") [] >>= _) _ _ _; refine wpAny_bind ?_; simp only [newExc, newTuple]
  refine wpAny_bind (wpAny_newObj_type ?_ (by size_fits)); refine wpAny_bind (m := firstArgMember _ _) (wpAny_of_eq (a := Value.none) (by first | rfl | (simp only [firstArgMember]; rfl)) ?_)
  refine wpAny_newObj_type ?_ (by size_fits); simp only [raiseNew]; refine wpAny_bind (wpAny_handled ?_); rw [show A.in1.handled = none from hh]
  refine wpAny_bind (wpAny_pure (wpAny_throw ?_)); refine wpAny_bind (wpAny_isInstance (T := "StopIteration") (b := true) ⟨_, Heap.get?_push_size _ rfl, rfl⟩ isSubtype_stop ?_)
  exact wpAny_pure (hQ _ (((Heap.SameBut.update ..).extBut.push _).push _))
theorem rawItems_self {it d : Addr} {i n ep : Nat} {ok ov : Value} {Q : Value → Shared → Prop} (hit : IsItemIter s.heap it d i n ep ok ov) (h : Q (.ref it) s) : wpAny (model prog w) A (pyIter (.ref it)) Q E s := by
  have hT : s.TypeIs (.ref it) "dict_itemiterator" := ⟨_, hit, rfl⟩
  have ent : entryFor table "dict_itemiterator.__iter__" = some Builtin.«dict_keyiterator.__iter__» := entryFor_alias (id' := "dict_keyiterator.__iter__") (by kernel_rfl) rfl (by decide +kernel) (by kernel_rfl)
  refine wpAny_pyIter_slot hT F.slot_dict_itemiterator_iter (wpAny_call_entry F.slot_dict_itemiterator_iter hT ent ?_ (F.args_dict_itemiterator_iter_1 _))
  show wpAny _ _ (ret (.ref it)) _ _ s
  exact wpAny_pure ⟨_, rfl, "dict_itemiterator", _, hT, F.slot_dict_itemiterator_next.lookup, h⟩
end
end PySem
namespace L2
open PySem PySem.Spec PyProof.Rows
theorem Inv.freeze {X : Cx} {pins : List (Addr × Obj)} {σ : St} {H : Hp} {s : Shared} {d : Addr} {o : Obj} {u : HO} (I : Inv X pins σ H s) (hm : Mut (H d)) (hd : H d = some u) (ho : s.heap.get? d = some o) : Inv X pins σ (upd H d (.frz o u)) s := by
  have hu : Un X.fs [] H (upd H d (.frz o u)) s.heap s.heap := by
    refine ⟨fun _ _ q _ _ _ => q, fun b ob q _ _ _ => ⟨ob.slots, q⟩, fun b _ _ n _ => ?_, fun b ob q _ => ⟨ob, q⟩, fun b xs q => ?_, fun b ob v q => ?_, fun b ps q => ⟨#[], ?_⟩⟩
    · rw [upd_ne (fun z => by rw [z, hd] at n; cases n)]; exact n
    · rw [upd_ne (fun z => by rw [z] at q; rw [q] at hm; exact hm)]; exact q
    · rw [upd_ne (fun z => by rw [z] at q; rw [q] at hm; exact hm)]; exact q
    · rw [upd_ne (fun z => by rw [z] at q; rw [q] at hm; exact hm), q]; simp
  have hok : HOk X.prog X.w (upd H d (.frz o u)) s.heap := fun b v q => by
    have st : ∀ c w', ObjOk X.prog X.w H s.heap c w' → ObjOk X.prog X.w (upd H d (.frz o u)) s.heap c w' := fun c w' x =>
      x.stay (fun _ _ _ q => q) (fun b q => by rw [upd_ne (fun z => by rw [z] at q; rw [q] at hm; exact hm)]; exact q) fun b xs q => by rw [upd_ne (fun z => by rw [z] at q; rw [q] at hm; exact hm)]; exact q
    by_cases hb : b = d
    · subst hb
      rw [upd_same] at q; cases q
      exact ⟨ho, st _ _ (I.hok _ _ hd)⟩
    · rw [upd_ne hb] at q
      exact st _ _ (I.hok _ _ q)
  have := I.un (h' := s.heap) (t' := s.toks) hu hok
  exact this
noncomputable def Itm (d : Addr) (o : Obj) (kvs : List (List Key × V)) : It :=
  ⟨fun i H => H d = some (.frz o (.dT kvs)) ∧ i < kvs.length,
   fun i H v H' => ∃ p b k x, v = .ref p ∧ H p = none ∧ H' = upd H p (.tup [.ref b, x]) ∧ kvs[i]? = some (k, x) ∧ H b = some (.tup (k.map kV)),
   fun i H => H d = some (.frz o (.dT kvs)) ∧ i = kvs.length⟩
theorem turn_items {P : Program} {w : World} {K : PySem.W.Frag} {es : List Expr} {x1} {pos : Pos} (it d : Addr) (o : Obj) (kvs : List (List Key × V)) (ens : Array DictEntry) (ep : Nat) (hd : o.data = .dict ens ep) (hz : ens.size = kvs.length) :
    Turn P w K (.Tuple es x1 pos) (Itm d o kvs) [it] it (fun i h => ∃ ok ov, IsItemIter h it d i ens.size ep ok ov) where
  mem := by simp
  obj := fun i h ⟨ok, ov, st⟩ c hc => by
    rw [List.mem_singleton.mp hc]
    exact ⟨_, st, fun v z => by cases z⟩
  keep := fun i h h' ⟨ok, ov, st⟩ kp => ⟨ok, ov, kp it (by simp) _ st⟩
  item := by
    intro X hP hw hK hc i pins s σ H E I hf st hg
    subst hP hw hK
    obtain ⟨ok, ov, st⟩ := st
    obtain ⟨g1, g2⟩ := hg
    obtain ⟨ho, ob⟩ := (show ObjOk X.prog X.w H s.heap d (.frz o (.dT kvs)) from I.hok _ _ g1)
    obtain ⟨_, _, xs, rp, o', es', ep', ho', hx', hd', he', _⟩ := ob
    rw [ho] at ho'; cases ho'
    rw [hd] at hd'; cases hd'
    have hi : i < ens.size := by omega
    have hxs : xs.length = kvs.length := (Paired.length rp).symm
    have hki : kvs[i]? = some kvs[i] := List.getElem?_eq_getElem g2
    have hxi : i < xs.length := by omega
    have hent : ens[i] = entryOfKey (tupleKind (mixKind X.prog X.w)) xs[i] := by
      have := entry_at (knd := tupleKind (mixKind X.prog X.w)) he' i
      rw [Array.getElem?_eq_getElem hi, List.getElem?_eq_getElem hxi] at this
      exact Option.some.inj this
    have hpr : kvs[i].1 = xs[i].1 ∧ H xs[i].2.1 = some (.tup (kvs[i].1.map kV)) ∧ RelV kvs[i].2 xs[i].2.2 := by
      have go : ∀ (l : List (List Key × V)) (m : List (List Key × Addr × Value)) (j : Nat) (a : j < l.length) (b : j < m.length), Paired (fun (p : List Key × V) (q : List Key × Addr × Value) => p.1 = q.1 ∧ H q.2.1 = some (.tup (p.1.map kV)) ∧ RelV p.2 q.2.2) l m → l[j].1 = m[j].1 ∧ H m[j].2.1 = some (.tup (l[j].1.map kV)) ∧ RelV l[j].2 m[j].2.2 := by
        intro l m j a b r
        induction r generalizing j with
        | nil => cases a
        | cons r t ih =>
          cases j with
          | zero => exact r
          | succ j => exact ih j (by simpa using a) (by simpa using b)
      exact go kvs xs i g2 hxi rp
    refine rawItems_item st ho hd hi fun h' g1' g2' g3' g4' => ?_
    refine ⟨_, rfl, wpAny_letOwnedTupleGo_items (s := { s with heap := h' }) g1' fun h2 hz2 hs2 => ?_⟩
    have lz : s.heap.objs.size ≠ it := Nat.ne_of_gt (Heap.lt_size st)
    have hn : H s.heap.objs.size = none := I.hok.fresh (Nat.le_refl _)
    have kp : ∀ c o, c ∉ [it] → s.heap.get? c = some o → h2.get? c = some o := fun c o hc' q => by
      have c1 : c ≠ it := fun e => hc' (by simp [e])
      exact (hs2.2 c c1).trans (g4' c o c1 q)
    have hT2 := (hs2.2 _ lz).trans g2'
    rw [hent] at hT2
    have I2 : Inv X pins σ (upd H s.heap.objs.size (.tup [.ref xs[i].2.1, kvs[i].2])) { s with heap := h2, toks := s.toks } := I.turnLaid (fp := [it]) kp hf (Nat.le_refl _) ⟨by show 2 ≤ sizeLine; rw [sizeLine_eq]; decide, [.ref xs[i].2.1, xs[i].2.2], .cons rfl (.cons hpr.2.2 .nil), ⟨_, hT2, rfl, _, rfl⟩⟩
    refine ⟨.ref s.heap.objs.size, _, I2, rfl, ⟨s.heap.objs.size, xs[i].2.1, kvs[i].1, kvs[i].2, rfl, hn, rfl, hki, hpr.2.1⟩, ⟨_, _, hz2⟩, fun c hc' => ?_⟩
    rw [List.mem_singleton.mp hc', upd_ne lz.symm]
    exact (hf it (by simp)).1
  done := by
    intro X hP hw hK hc i pins s σ H E I hf st hg
    subst hP hw hK
    obtain ⟨ok, ov, st⟩ := st
    obtain ⟨g1, g2⟩ := hg
    obtain ⟨ho, ob⟩ := (show ObjOk X.prog X.w H s.heap d (.frz o (.dT kvs)) from I.hok _ _ g1)
    refine rawItems_end (I.ok.hd hc) st ho hd (by omega) fun h' hk => ⟨rfl, ?_⟩
    exact I.turnedL (fp := [it]) (t' := s.toks) (fun c o hc' q => hk c o (fun e => hc' (by simp [e])) q) hf
  self := fun _ _ _ _ _ ⟨ok, ov, st⟩ h => rawItems_self st h
noncomputable def iItems (td : TE) : TI := fun σ H R => td σ H fun x H1 => ∃ d kvs, x = .ref d ∧ H1 d = some (.dT kvs) ∧ ∀ o, R (Itm d o kvs) (upd H1 d (.frz o (.dT kvs)))
section
variable {X : Cx}
theorem pi_items {a : Expr} {td : TE} {apos cpos : Pos} {es : List Expr} {x1} {tpos : Pos} (ha : PE X a td) (hbase : attributeBase a "items" X.env (eval a X.env) = eval a X.env := by rfl) (hline : (apos.endLine == cpos.line) = true := by rfl) :
    PI X (.Tuple es x1 tpos) (.Call (.Attribute a "items" apos) [] [] cpos) (iItems td) := by
  intro pins s σ H R I h
  refine wpAny_Call_method0_late hbase hline (thn (ha pins s σ H _ I h) fun v s1 ⟨x, H1, I1, r1, d, kvs, e, q1, q⟩ => ?_)
  subst e
  cases r1
  obtain ⟨_, hs, xs, rp, o, ens, ep, ho, hx, hd, he, _⟩ := (show ObjOk X.prog X.w H1 s1.heap d (.dT kvs) from I1.hok _ _ q1)
  have hsz : ens.size = kvs.length := by rw [size_of_entries he]; exact (Paired.length rp).symm
  refine ⟨"dict", "dict.items", PySem.F.plainAttrs_dict, PySem.F.slot_dict_items, PySem.F.type_dict_items, ⟨o, ho, hx.1⟩, fun a e => by cases e; exact ⟨o, ho, hx.2.1⟩, Calls.callWith_builtin rfl (PySem.evalArgs_none ?_)⟩
  refine rawItems_call ho hx hs ?_
  refine rawItems_iter (s := { s1 with heap := s1.heap.push { cls := .type "dict_items", data := .fields #[.ref d] } }) ⟨_, Heap.get?_push_size _ rfl, rfl, rfl⟩ (Heap.get?_push_of_some _ ho) hd ?_
  have kp : ∀ b ob, s1.heap.get? b = some ob → ((s1.heap.push { cls := .type "dict_items", data := .fields #[.ref d] }).push { cls := .type "dict_itemiterator", data := .fields #[.none, .bool false, .ref d, .int 0 0, .int ens.size 0, .int ep 0, .none, .none] }).get? b = some ob := fun b ob e => Heap.get?_push_of_some _ (Heap.get?_push_of_some _ e)
  have I2 := (I1.freeze (by rw [q1]; trivial) q1 ho).kept (t' := s1.toks) kp
  refine ⟨_, [_], _, _, _, rfl, I2, turn_items _ d o kvs ens ep hd hsz, ⟨_, _, Heap.get?_push_size _ rfl⟩, fun c hc => ?_, q o⟩
  rw [List.mem_singleton.mp hc]
  have hge : s1.heap.objs.size ≤ (s1.heap.push { cls := .type "dict_items", data := .fields #[.ref d] }).objs.size := by rw [Heap.size_push]; exact Nat.le_succ _
  exact I1.fpOk hge (by rw [upd_ne (Nat.ne_of_gt (Nat.lt_of_lt_of_le (Heap.lt_size ho) hge))]; exact I1.hok.fresh hge)
end
end L2
namespace Srt
open PySem PySem.W PyProof.Rows
section
variable {cmp : Nat → Nat → (Bool → Shared → Prop) → Shared → Prop} {n : Nat} {r : Nat → Int} {s : Shared}
noncomputable def Asks (cmp : Nat → Nat → (Bool → Shared → Prop) → Shared → Prop) (n : Nat) (r : Nat → Int) (s : Shared) : Prop := ∀ i j (C : Bool → Shared → Prop), i < n → j < n → C (decide (r i < r j)) s → cmp i j C s
noncomputable def at' (p : Array Nat) (k : Nat) : Nat := p.getD k 0
noncomputable def Pm (n : Nat) (p : Array Nat) : Prop := p.Perm (List.range n).toArray
theorem Pm.size {p : Array Nat} (h : Pm n p) : p.size = n := by rw [Array.Perm.size_eq h]; simp
theorem Pm.lt {p : Array Nat} (h : Pm n p) (k : Nat) (hn : 0 < n) : at' p k < n := by
  unfold at'
  by_cases hk : k < p.size
  · have e : p.getD k 0 = p[k] := by simp [Array.getD, hk]
    rw [e]
    have h1 : p[k] ∈ p.toList := by simp
    have h2 := (Array.perm_iff_toList_perm.mp h).mem_iff.mp h1
    simpa using h2
  · have e : p.getD k 0 = 0 := by simp [Array.getD, hk]
    rw [e]; exact hn
noncomputable def R (r : Nat → Int) (p : Array Nat) (k : Nat) : Int := r (at' p k)
noncomputable def Up (r : Nat → Int) (p : Array Nat) (k : Nat) : Prop := ∀ i j, i ≤ j → j < k → R r p i ≤ R r p j
noncomputable def Dn (r : Nat → Int) (p : Array Nat) (k : Nat) : Prop := ∀ i j, i ≤ j → j < k → R r p j ≤ R r p i
theorem up_succ {p : Array Nat} {k : Nat} (h : Up r p k) (h1 : R r p (k - 1) ≤ R r p k) : Up r p (k + 1) := by
  intro i j hij hj
  by_cases e : j < k
  · exact h i j hij e
  · have : j = k := by omega
    subst this
    by_cases e2 : i = j
    · subst e2; exact Int.le_refl _
    · exact Int.le_trans (h i (j - 1) (by omega) (by omega)) h1
theorem dn_succ {p : Array Nat} {k : Nat} (h : Dn r p k) (h1 : R r p k ≤ R r p (k - 1)) : Dn r p (k + 1) := by
  intro i j hij hj
  by_cases e : j < k
  · exact h i j hij e
  · have : j = k := by omega
    subst this
    by_cases e2 : i = j
    · subst e2; exact Int.le_refl _
    · exact Int.le_trans h1 (h i (j - 1) (by omega) (by omega))
theorem at_rev {p : Array Nat} {i j : Nat} (hj : j ≤ p.size) (k : Nat) : at' (kas_rev p i j) k = if i ≤ k ∧ k < j then at' p (i + j - 1 - k) else at' p k := by
  have e := getElem?_mirror_all (xs := p) (i := i) hj k
  have g : ∀ (xs : Array Nat) (k : Nat), at' xs k = (xs[k]?).getD 0 := fun xs k => by unfold at'; simp [Array.getD]; split <;> simp [*]
  rw [g, g, g]
  show (mirror p i j ((j - i) / 2))[k]?.getD 0 = _
  rw [e]
  split <;> rfl
theorem R_rev {p : Array Nat} {i j : Nat} (hj : j ≤ p.size) (k : Nat) : R r (kas_rev p i j) k = if i ≤ k ∧ k < j then R r p (i + j - 1 - k) else R r p k := by
  unfold R; rw [at_rev hj]; split <;> rfl
theorem R_rev_eq {p : Array Nat} {i j : Nat} (hj : j ≤ p.size) (h : ∀ k, i ≤ k → k < j → R r p k = R r p (j - 1)) (k : Nat) : R r (kas_rev p i j) k = R r p k := by
  rw [R_rev hj]
  split
  · rw [h _ (by omega) (by omega), h k (by omega) (by omega)]
  · rfl
theorem Pm.rev {p : Array Nat} (h : Pm n p) (i j : Nat) : Pm n (kas_rev p i j) := Array.Perm.trans (mirror_perm _ _ _ _) h
theorem Pm.bub {p : Array Nat} (h : Pm n p) (k d : Nat) : Pm n (bubble p k d) := Array.Perm.trans (bubble_perm _ _ _) h
theorem R_bub {p : Array Nat} {src d : Nat} (hs : src < p.size) (hd : d ≤ src) (k : Nat) : R r (bubble p src d) k = if k = src - d then R r p src else if src - d < k ∧ k ≤ src then R r p (k - 1) else R r p k := by
  have e := getElem?_bubble (xs := p) hs d hd k
  have g : ∀ (xs : Array Nat) (k : Nat), at' xs k = (xs[k]?).getD 0 := fun xs k => by unfold at'; simp [Array.getD]; split <;> simp [*]
  unfold R
  rw [g, e]
  split
  · rw [g]
  · split <;> rw [g]
theorem asc_ok (ha : Asks cmp n r s) (hn : 0 < n) {p : Array Nat} (hp : Pm n p) : ∀ (f k : Nat) (Q : Nat → Shared → Prop), 1 ≤ k → Up r p k → (∀ m, k ≤ m → m ≤ k + f → Up r p m → (m = k + f ∨ R r p m < R r p (m - 1)) → Q m s) → (kas_asc p f k).kasWp cmp Q s
  | 0, k, Q, h1, hu, h => h k (Nat.le_refl _) (Nat.le_refl _) hu (.inl rfl)
  | f + 1, k, Q, h1, hu, h => by
    show cmp (at' p k) (at' p (k - 1)) (fun b s' => (if b = true then KasT.ret k else kas_asc p f (k + 1)).kasWp cmp Q s') s
    refine ha _ _ _ (hp.lt _ hn) (hp.lt _ hn) ?_
    by_cases c : r (at' p k) < r (at' p (k - 1))
    · rw [decide_eq_true c]
      exact h k (Nat.le_refl _) (by omega) hu (.inr c)
    · rw [decide_eq_false c]
      refine asc_ok ha hn hp f (k + 1) Q (by omega) (up_succ hu (Int.not_lt.mp c)) fun m a b u e => h m (by omega) (by omega) u ?_
      rcases e with e | e
      · left; omega
      · exact .inr e
theorem desc_ok (ha : Asks cmp n r s) (hn : 0 < n) : ∀ (f k q : Nat) (p : Array Nat) (Q : Array Nat × Nat × Nat → Shared → Prop), Pm n p → 1 ≤ k → k + f ≤ n → Dn r p k → q + 1 ≤ k → (∀ i, k - (q + 1) ≤ i → i < k → R r p i = R r p (k - 1)) →
    (∀ p' m q', Pm n p' → k ≤ m → m ≤ k + f → Dn r p' m → q' + 1 ≤ m → (∀ i, m - (q' + 1) ≤ i → i < m → R r p' i = R r p' (m - 1)) → Q (p', m, q') s) → (kas_desc f p k q).kasWp cmp Q s
  | 0, k, q, p, Q, hp, h1, hk, hd, hq, he, h => h p k q hp (Nat.le_refl _) (Nat.le_refl _) hd hq he
  | f + 1, k, q, p, Q, hp, h1, hk, hd, hq, he, h => by
    have hsz : k ≤ p.size := by rw [hp.size]; omega
    show cmp (at' p k) (at' p (k - 1)) (fun c s' => (if c = true then (if q > 0 then kas_desc f (kas_rev p (k - (q + 1)) k) (k + 1) 0 else kas_desc f p (k + 1) 0) else KasT.ask (at' p (k - 1)) (at' p k) fun d => if d = true then KasT.ret (p, k, q) else kas_desc f p (k + 1) (q + 1)).kasWp cmp Q s') s
    refine ha _ _ _ (hp.lt _ hn) (hp.lt _ hn) ?_
    by_cases c : r (at' p k) < r (at' p (k - 1))
    · rw [decide_eq_true c]
      have go : ∀ p', Pm n p' → (∀ i, R r p' i = R r p i) → (kas_desc f p' (k + 1) 0).kasWp cmp Q s := fun p' hp' e => by
        refine desc_ok ha hn f (k + 1) 0 p' Q hp' (by omega) (by omega) ?_ (by omega) ?_ fun p2 m q' a1 a2 a3 a4 a5 a6 => h p2 m q' a1 (by omega) (by omega) a4 a5 a6
        · intro i j hij hj
          rw [e, e]
          exact dn_succ hd (Int.le_of_lt c) i j hij hj
        · intro i hi1 hi2
          have : i = k := by omega
          subst this; rfl
      show (if q > 0 then kas_desc f (kas_rev p (k - (q + 1)) k) (k + 1) 0 else kas_desc f p (k + 1) 0).kasWp cmp Q s
      by_cases hq0 : q > 0
      · rw [if_pos hq0]; exact go _ (hp.rev _ _) (R_rev_eq hsz he)
      · rw [if_neg hq0]; exact go p hp fun _ => rfl
    · rw [decide_eq_false c]
      show cmp (at' p (k - 1)) (at' p k) (fun d s' => (if d = true then KasT.ret (p, k, q) else kas_desc f p (k + 1) (q + 1)).kasWp cmp Q s') s
      refine ha _ _ _ (hp.lt _ hn) (hp.lt _ hn) ?_
      by_cases d : r (at' p (k - 1)) < r (at' p k)
      · rw [decide_eq_true d]
        exact h p k q hp (Nat.le_refl _) (by omega) hd hq he
      · rw [decide_eq_false d]
        have e : R r p k = R r p (k - 1) := Int.le_antisymm (Int.not_lt.mp d) (Int.not_lt.mp c)
        show (kas_desc f p (k + 1) (q + 1)).kasWp cmp Q s
        refine desc_ok ha hn f (k + 1) (q + 1) p Q hp (by omega) (by omega) (dn_succ hd (Int.le_of_eq e)) (by omega) ?_ fun p2 m q' a1 a2 a3 a4 a5 a6 => h p2 m q' a1 (by omega) (by omega) a4 a5 a6
        intro i hi1 hi2
        rw [show k + 1 - 1 = k by omega, e]
        by_cases ik : i = k
        · rw [ik, e]
        · exact he i (by omega) (by omega)
theorem tail_ok (ha : Asks cmp n r s) (hn : 0 < n) {p : Array Nat} (hp : Pm n p) {k nrem : Nat} {Q : Nat × Array Nat → Shared → Prop} (h1 : 1 ≤ k) (hk : k ≤ nrem) (hz : nrem ≤ n) (hd : Dn r p k)
    (h : ∀ m p', Pm n p' → 1 ≤ m → m ≤ nrem → Up r p' m → Q (m, p') s) : (kas_tail3 k nrem p).kasWp cmp Q s := by
  unfold kas_tail3
  rw [KasT.kasWp_bind]
  have hsz : k ≤ p.size := by rw [hp.size]; omega
  refine asc_ok ha hn (hp.rev 0 k) _ _ _ h1 ?_ fun m a b u _ => h m _ (hp.rev 0 k) (by omega) (by omega) u
  intro i j hij hj
  rw [R_rev hsz, R_rev hsz, if_pos (by omega), if_pos (by omega)]
  exact hd _ _ (by omega) (by omega)
theorem part_ok (ha : Asks cmp n r s) (hn : 0 < n) {p : Array Nat} (hp : Pm n p) {k nrem : Nat} {Q : Nat × Array Nat → Shared → Prop} (hk : k + 1 ≤ nrem) (hz : nrem ≤ n) (hd : Dn r p (k + 1))
    (h : ∀ m p', Pm n p' → 1 ≤ m → m ≤ nrem → Up r p' m → Q (m, p') s) : (kas_descPart k nrem p).kasWp cmp Q s := by
  unfold kas_descPart
  rw [KasT.kasWp_bind]
  refine desc_ok ha hn _ (k + 1) 0 p _ hp (by omega) (by omega) hd (by omega) (fun i a b => show R r p i = R r p (k + 1 - 1) by rw [show i = k + 1 - 1 by omega]) fun p' m q hp' a1 a2 hd' hq he => ?_
  show (if q > 0 then kas_tail3 m nrem (kas_rev p' (m - (q + 1)) m) else kas_tail3 m nrem p').kasWp cmp Q s
  have hsz : m ≤ p'.size := by rw [hp'.size]; omega
  by_cases hq0 : q > 0
  · rw [if_pos hq0]
    refine tail_ok ha hn (hp'.rev _ _) (by omega) (by omega) hz ?_ h
    intro i j hij hj
    rw [R_rev_eq hsz he, R_rev_eq hsz he]
    exact hd' i j hij hj
  · rw [if_neg hq0]
    exact tail_ok ha hn hp' (by omega) (by omega) hz hd' h
theorem count_ok (ha : Asks cmp n r s) (hn : 0 < n) {p : Array Nat} (hp : Pm n p) {Q : Nat × Array Nat → Shared → Prop} 
    (h : ∀ m p', Pm n p' → 1 ≤ m → m ≤ n → Up r p' m → Q (m, p') s) : (kas_count n p).kasWp cmp Q s := by
  unfold kas_count
  rw [KasT.kasWp_bind]
  refine asc_ok ha hn hp _ 1 _ (Nat.le_refl _) (fun i j a b => show R r p i ≤ R r p j by rw [show i = j by omega]; exact Int.le_refl _) fun m a b u e => ?_
  by_cases e1 : m = n
  · rw [if_pos (by simpa using e1)]
    exact h m p hp a (by omega) u
  · rw [if_neg (by simpa using e1)]
    have hlt : R r p m < R r p (m - 1) := e.resolve_left (by omega)
    have dn1 : ∀ p', Pm n p' → Dn r p' m → (∀ i, R r p' i = R r p i) → Dn r p' (m + 1) := fun p' _ d z => dn_succ d (by rw [z, z]; exact Int.le_of_lt hlt)
    by_cases e2 : m > 1
    · rw [if_pos e2]
      show cmp (at' p 0) (at' p (m - 1)) (fun c s' => (if c = true then KasT.ret (m, p) else kas_descPart m n (kas_rev p 0 m)).kasWp cmp Q s') s
      refine ha _ _ _ (hp.lt _ hn) (hp.lt _ hn) ?_
      by_cases c : r (at' p 0) < r (at' p (m - 1))
      · rw [decide_eq_true c]
        exact h m p hp a (by omega) u
      · rw [decide_eq_false c]
        have hall : ∀ k, 0 ≤ k → k < m → R r p k = R r p (m - 1) := fun k _ hk => by
          have a1 := u 0 k (by omega) hk
          have a2 := u k (m - 1) (by omega) (by omega)
          have a3 : R r p (m - 1) ≤ R r p 0 := Int.not_lt.mp c
          omega
        have hsz : m ≤ p.size := by rw [hp.size]; omega
        refine part_ok ha hn (hp.rev 0 m) (by omega) (Nat.le_refl _) (dn1 _ (hp.rev 0 m) ?_ (R_rev_eq hsz hall)) h
        intro i j hij hj
        rw [R_rev_eq hsz hall, R_rev_eq hsz hall, hall i (by omega) (by omega), hall j (by omega) hj]
        exact Int.le_refl _
    · rw [if_neg e2]
      have : m = 1 := by omega
      subst this
      refine part_ok ha hn hp (by omega) (Nat.le_refl _) (dn1 p hp (fun i j hij hj => ?_) fun _ => rfl) h
      have : i = j := by omega
      subst this; exact Int.le_refl _
theorem place_ok (ha : Asks cmp n r s) (hn : 0 < n) {p : Array Nat} (hp : Pm n p) {k : Nat} (hu : Up r p k) : ∀ (f lo hi : Nat) (Q : Nat → Shared → Prop), lo ≤ hi → hi ≤ k → hi - lo ≤ f → (∀ i, i < lo → R r p i ≤ R r p k) → (∀ i, hi ≤ i → i < k → R r p k < R r p i) →
    (∀ l, l ≤ k → (∀ i, i < l → R r p i ≤ R r p k) → (∀ i, l ≤ i → i < k → R r p k < R r p i) → Q l s) → (kas_place p k f lo hi).kasWp cmp Q s
  | 0, lo, hi, Q, h1, h2, h3, hl, hh, h => h lo (by omega) hl fun i a b => hh i (by omega) b
  | f + 1, lo, hi, Q, h1, h2, h3, hl, hh, h => by
    unfold kas_place
    by_cases e : lo ≥ hi
    · rw [if_pos e]
      exact h lo (by omega) hl fun i a b => hh i (by omega) b
    · rw [if_neg e]
      show cmp (at' p k) (at' p ((lo + hi) / 2)) (fun c s' => (if c = true then kas_place p k f lo ((lo + hi) / 2) else kas_place p k f ((lo + hi) / 2 + 1) hi).kasWp cmp Q s') s
      refine ha _ _ _ (hp.lt _ hn) (hp.lt _ hn) ?_
      by_cases c : r (at' p k) < r (at' p ((lo + hi) / 2))
      · rw [decide_eq_true c]
        refine place_ok ha hn hp hu f lo ((lo + hi) / 2) Q (by omega) (by omega) (by omega) hl (fun i a b => ?_) h
        exact Int.lt_of_lt_of_le c (hu ((lo + hi) / 2) i a b)
      · rw [decide_eq_false c]
        refine place_ok ha hn hp hu f ((lo + hi) / 2 + 1) hi Q (by omega) (by omega) (by omega) (fun i a => ?_) hh h
        exact Int.le_trans (hu i ((lo + hi) / 2) (by omega) (by omega)) (Int.not_lt.mp c)
theorem bin_ok (ha : Asks cmp n r s) (hn : 0 < n) : ∀ (f k : Nat) (p : Array Nat) (Q : Array Nat → Shared → Prop), Pm n p → k + f = n → Up r p k → (∀ p', Pm n p' → Up r p' n → Q p' s) → (kas_bin f p k).kasWp cmp Q s
  | 0, k, p, Q, hp, hk, hu, h => h p hp (by rw [← hk]; exact hu)
  | f + 1, k, p, Q, hp, hk, hu, h => by
    show ((kas_place p k k 0 k).bind fun l => kas_bin f (bubble p k (k - l)) (k + 1)).kasWp cmp Q s
    rw [KasT.kasWp_bind]
    refine place_ok ha hn hp hu k 0 k _ (Nat.zero_le _) (Nat.le_refl _) (by omega) (fun i a => by omega) (fun i a b => by omega) fun l hl h1 h2 => ?_
    refine bin_ok ha hn f (k + 1) _ Q (hp.bub _ _) (by omega) ?_ h
    have hs : k < p.size := by rw [hp.size]; omega
    intro i j hij hj
    rw [R_bub hs (by omega), R_bub hs (by omega), show k - (k - l) = l by omega]
    by_cases c1 : i = l
    · rw [if_pos c1]
      by_cases c2 : j = l
      · rw [if_pos c2]; exact Int.le_refl _
      · rw [if_neg c2, if_pos (by omega)]
        exact Int.le_of_lt (h2 (j - 1) (by omega) (by omega))
    · rw [if_neg c1]
      by_cases c2 : j = l
      · rw [if_pos c2, if_neg (by omega)]
        exact h1 i (by omega)
      · rw [if_neg c2]
        by_cases c3 : l < i ∧ i ≤ k
        · rw [if_pos c3, if_pos (by omega)]
          exact hu _ _ (by omega) (by omega)
        · rw [if_neg c3]
          by_cases c4 : l < j ∧ j ≤ k
          · rw [if_pos c4]
            exact hu _ _ (by omega) (by omega)
          · rw [if_neg c4]
            exact hu _ _ hij (by omega)
theorem sort_ok (ha : Asks cmp n r s) (h2 : 2 ≤ n) {Q : Array Nat → Shared → Prop} (h : ∀ p, Pm n p → Up r p n → Q p s) : (kas_sort n).kasWp cmp Q s := by
  unfold kas_sort
  rw [KasT.kasWp_bind]
  refine count_ok ha (by omega) (Array.Perm.refl _) fun m p hp h1 hm u => ?_
  show (if m < n then kas_bin (n - max m 1) p (max m 1) else KasT.ret p).kasWp cmp Q s
  by_cases e : m < n
  · rw [if_pos e]
    have : max m 1 = m := by omega
    rw [this]
    exact bin_ok ha (by omega) _ _ p Q hp (by omega) u h
  · rw [if_neg e]
    have : m = n := by omega
    subst this
    exact h p hp u
end
end Srt
namespace Srt
open PySem PySem.W PyProof.Rows
section
variable {prog : Program} {w : World} {A : Around} {E : Value → Shared → Prop} {s : Shared} {κ : SortKind} {r : Nat → Int}
noncomputable def But (a : Addr) (h h' : Heap) : Prop := ∀ b o, b ≠ a → h.get? b = some o → h'.get? b = some o
theorem pm_range (n : Nat) : Pm n (List.toArray (List.range n)) := Array.Perm.refl _
theorem up_short {p : Array Nat} {n : Nat} (h : n < 2) : Up r p n := fun i j hij hj => by
  have : i = j := by omega
  subst this; exact Int.le_refl _
theorem range_map (vs : List Value) : (List.toArray (List.range vs.length)).toList.map (fun i => vs.getD i Value.none) = vs := by
  refine List.ext_getElem (by simp) fun i h1 h2 => ?_
  simp [h2]
theorem sort_raw {a : Addr} {vs : List Value} {n : Nat} {P : PySem.Fin → Shared → Prop} (ho : s.heap.get? a = some (seqObj "list" vs.toArray n)) (h64 : vs.length < 64)
    (hk : 2 ≤ vs.length → ∀ h', But a s.heap h' → (∀ Q : SortKind → Shared → Prop, Q κ { s with heap := h' } → wpAny (model prog w) A (keyKind' vs.toArray) Q E { s with heap := h' }) ∧ Asks (kas_ask prog w A κ vs) vs.length r { s with heap := h' })
    (h : ∀ h' c p, Pm vs.length p → Up r p vs.length → h'.get? a = some (seqObj "list" (p.toList.map fun i => vs.getD i Value.none).toArray c) → But a s.heap h' → P (.done (.ret .none)) { s with heap := h' }) :
    wpAny (model prog w) A (Builtin.«list.sort» ⟨[.ref a], []⟩) P E s := by
  have la := Heap.lt_size ho
  obtain ⟨c1, o1⟩ : ∃ c1, (s.heap.update a (Obj.mapSeq fun _ => (#[] : Array Value))).get? a = some (seqObj "list" #[] c1) := ⟨_, get?_update_seq ho fun _ => #[]⟩
  have b1 : But a s.heap (s.heap.update a (Obj.mapSeq fun _ => (#[] : Array Value))) := fun b o hb e => by rw [Heap.get?_update_ne _ _ _ _ hb]; exact e
  generalize hg1 : s.heap.update a (Obj.mapSeq fun _ => (#[] : Array Value)) = g1 at o1 b1
  have o3 : ((g1.push (seqObj "tuple" vs.toArray 0)).push (seqObj "list" #[] 0)).get? a = some (seqObj "list" #[] c1) := Heap.get?_push_of_some _ (Heap.get?_push_of_some _ o1)
  have b3 : But a s.heap ((g1.push (seqObj "tuple" vs.toArray 0)).push (seqObj "list" #[] 0)) := fun b o hb e => Heap.get?_push_of_some _ (Heap.get?_push_of_some _ (b1 b o hb e))
  rw [list_sort_plain]
  refine wpAny_bind (listItems_at ho rfl ?_)
  refine wpAny_bind (listUpdate_at ho rfl ?_ (by rw [List.size_toArray, sizeLine_eq]; omega) (Nat.zero_le _))
  rw [hg1]
  refine wpAny_bind (seqEpoch_at o1 rfl ?_)
  refine wpAny_bind (wpAny_newTuple ?_ (by show vs.length ≤ _; rw [sizeLine_eq]; omega))
  refine wpAny_bind (wpAny_newList ?_ (Nat.zero_le _))
  refine wpAny_holding ?_
  show wpAny (model prog w) A _ P E { s with heap := (g1.push (seqObj "tuple" vs.toArray 0)).push (seqObj "list" #[] 0) }
  generalize (g1.push (seqObj "tuple" vs.toArray 0)).push (seqObj "list" #[] 0) = g3 at o3 b3
  dsimp only
  have fin : ∀ (st : SortSt) (p : Array Nat), Pm vs.length p → Up r p vs.length → (arrOf st).map (·.2) = (p.toList.map fun i => vs.getD i Value.none).toArray → failedOf st = none →
      wpAny (model prog w) A (do
        let touched := (← seqEpoch a) != c1
        Builtin.List.listUpdate (.ref a) fun _ => (arrOf st).map (·.2)
        if let some e := failedOf st then rule "list.sort.comparison-raised"; throw e
        if touched then rule "list.sort.modified"; raiseError "ValueError" "list modified during sort"
        ret .none) P E { s with heap := g3 } := fun st p hp hu hout hf => by
    rw [hout, hf]
    have hz : (p.toList.map fun i => vs.getD i Value.none).toArray.size = vs.length := by rw [List.size_toArray, List.length_map, Array.length_toList, hp.size]
    obtain ⟨c4, o4⟩ : ∃ c4, (g3.update a (Obj.mapSeq fun _ => (p.toList.map fun i => vs.getD i Value.none).toArray)).get? a = some (seqObj "list" (p.toList.map fun i => vs.getD i Value.none).toArray c4) := ⟨_, get?_update_seq o3 fun _ => (p.toList.map fun i => vs.getD i Value.none).toArray⟩
    refine wpAny_bind (seqEpoch_at o3 rfl ?_)
    refine wpAny_bind (listUpdate_at o3 rfl ?_ (Nat.zero_le _) (Nat.le_trans (Nat.le_of_eq hz) (by rw [sizeLine_eq]; omega)))
    simp only [bne_self_eq_false, Bool.false_eq_true, if_false]
    exact wpAny_pure (h _ c4 p hp hu o4 fun b o hb e => by rw [Heap.get?_update_ne _ _ _ _ hb]; exact b3 b o hb e)
  by_cases h2 : vs.toArray.size < 2
  · rw [if_pos h2, if_pos h2]
    refine wpAny_bind (wpAny_pure ?_)
    rw [StateT.run_pure]
    refine wpAny_bind (wpAny_pure ?_)
    refine fin _ _ (pm_range _) (up_short (by rw [List.size_toArray] at h2; exact h2)) ?_ rfl
    rw [range_map]
    show (vs.toArray.zip vs.toArray).map (·.2) = _
    apply Array.toList_inj.mp
    simp [List.map_snd_zip]
  · rw [if_neg h2, if_neg h2]
    rw [List.size_toArray] at h2
    obtain ⟨kk, ask⟩ := hk (by omega) g3 b3
    refine wpAny_bind (kk _ ?_)
    refine wpAny_bind (wpAny_mono (kat_run (Q := fun st' s' => s' = { s with heap := g3 } ∧ ∃ p, Pm vs.length p ∧ Up r p vs.length ∧ arrOf st' = p.map (kas_item (vs.toArray.zip vs.toArray)) ∧ failedOf st' = none) (G := fun p s' => s' = { s with heap := g3 } ∧ Pm vs.length p ∧ Up r p vs.length)
      rfl (by omega) h64 (fun p st' s' a1 a2 a3 a4 => ⟨a4.1, p, a4.2.1, a4.2.2, a2, a3⟩) (sort_ok ask (by omega) fun p hp hu => ⟨rfl, hp, hu⟩)) ?_ fun _ _ e => e)
    rintro ⟨⟨⟩, st'⟩ s' ⟨rfl, p, hp, hu, har, hf⟩
    exact fin st' p hp hu (kat_snds rfl har) hf
theorem sorted_raw {x : Value} {vs : List Value} {Q : Value → Shared → Prop} (h64 : vs.length < 64)
    (hc : ∀ Q' : List Value → Shared → Prop, (∀ h1 tk, (∀ b o, s.heap.get? b = some o → h1.get? b = some o) → s.heap.objs.size ≤ h1.objs.size → Q' vs { s with heap := h1, toks := tk }) → wpAny (model prog w) A.in1 (collect x) Q' E s)
    (hr : ∀ h1 tk, (∀ b o, s.heap.get? b = some o → h1.get? b = some o) → 2 ≤ vs.length → (∀ Q : SortKind → Shared → Prop, Q κ { s with heap := h1, toks := tk } → wpAny (model prog w) A.in1.in1 (keyKind' vs.toArray) Q E { s with heap := h1, toks := tk }) ∧ Asks (kas_ask prog w A.in1.in1 κ vs) vs.length r { s with heap := h1, toks := tk })
    (h : ∀ D h' tk c p, s.heap.objs.size ≤ D → Pm vs.length p → Up r p vs.length → h'.get? D = some (seqObj "list" (p.toList.map fun i => vs.getD i Value.none).toArray c) → (∀ b o, s.heap.get? b = some o → h'.get? b = some o) → Q (.ref D) { s with heap := h', toks := tk }) :
    wpAny (model prog w) A (call (.builtin "sorted") [x]) Q E s := by
  refine Calls.call_function_entry kind_sorted plain_sorted entry_sorted (args_sorted1 _) ?_
  unfold Builtin.«sorted»
  refine wpAny_bind (m := checkCount "sorted" 1 1 _) (wpAny_pure ?_)
  refine wpAny_bind (hc _ fun h1 tk k1 z1 => ?_)
  refine wpAny_bind (wpAny_newList ?_ (by rw [sizeLine_eq]; omega))
  have oL : (h1.push (seqObj "list" vs.toArray 0)).get? h1.objs.size = some (seqObj "list" vs.toArray 0) := Heap.get?_push_size _ rfl
  have kL : ∀ b o, s.heap.get? b = some o → (h1.push (seqObj "list" vs.toArray 0)).get? b = some o ∧ b ≠ h1.objs.size := fun b o e => ⟨Heap.get?_push_of_some _ (k1 b o e), Nat.ne_of_lt (Nat.lt_of_lt_of_le (Heap.lt_size e) z1)⟩
  refine wpAny_bind (wpAny_holding (wpAny_call_entry slot_list_sort ⟨_, oL, rfl⟩ entry_list_sort ?_ (args_list_sort _)))
  refine sort_raw (κ := κ) (r := r) oL h64 (fun h2 h' b' => hr h' tk (fun b o e => b' b o (kL b o e).2 (kL b o e).1) h2) fun h' c p hp hu o' b' => ⟨_, rfl, ?_⟩
  exact wpAny_pure ⟨_, rfl, h h1.objs.size h' tk c p z1 hp hu o' fun b o e => b' b o (kL b o e).2 (kL b o e).1⟩
end
end Srt
namespace L2
open PySem PySem.Spec PyProof.Rows
noncomputable def Kn (H : Hp) : Nat → V → Prop
  | 0, _ => True
  | n + 1, v => match v with
    | .non => True
    | .bl _ => True
    | .int _ => True
    | .str _ => True
    | .ref a => (∃ xs, H a = some (.lst xs)) ∨ (∃ kvs, H a = some (.dK kvs)) ∨ ∃ xs, H a = some (.tup xs) ∧ xs.length ≤ 1000 ∧ ∀ x ∈ xs, Kn H n x
    | _ => False
noncomputable def KnA (H : Hp) (v : V) : Prop := ∀ n, Kn H n v
structure Ext (H H' : Hp) : Prop where
  tup : ∀ a xs, H a = some (.tup xs) → H' a = some (.tup xs)
  lst : ∀ a xs, H a = some (.lst xs) → ∃ ys, H' a = some (.lst ys)
  dct : ∀ a kvs, H a = some (.dK kvs) → H' a = some (.dK kvs)
theorem Ext.trans {H H1 H2 : Hp} (a : Ext H H1) (b : Ext H1 H2) : Ext H H2 := ⟨fun _ _ h => b.tup _ _ (a.tup _ _ h), fun _ _ h => let ⟨_, e⟩ := a.lst _ _ h; b.lst _ _ e, fun _ _ h => b.dct _ _ (a.dct _ _ h)⟩
theorem Same.ext {H H' : Hp} (s : Same H H') : Ext H H' := ⟨fun _ _ h => s _ _ h, fun _ xs h => ⟨xs, s _ _ h⟩, fun _ _ h => s _ _ h⟩
theorem Kn.ext {H H' : Hp} (e : Ext H H') : ∀ {n : Nat} {v : V}, Kn H n v → Kn H' n v
  | 0, _, _ => True.intro
  | n + 1, v, h => by
    cases v with
    | ref a =>
      rcases h with ⟨xs, h⟩ | ⟨kvs, h⟩ | ⟨xs, h, hl, hx⟩
      · exact .inl (e.lst _ _ h)
      · exact .inr (.inl ⟨kvs, e.dct _ _ h⟩)
      · exact .inr (.inr ⟨xs, e.tup _ _ h, hl, fun x hm => Kn.ext e (hx x hm)⟩)
    | _ => exact h
theorem Kn.le {H : Hp} : ∀ {n m : Nat} {v : V}, n ≤ m → Kn H m v → Kn H n v
  | 0, _, _, _, _ => True.intro
  | n + 1, 0, _, h, _ => absurd h (by omega)
  | n + 1, m + 1, v, h, k => by
    cases v with
    | ref a =>
      rcases k with ⟨xs, k⟩ | ⟨kvs, k⟩ | ⟨xs, k, hl, hx⟩
      · exact .inl ⟨xs, k⟩
      · exact .inr (.inl ⟨kvs, k⟩)
      · exact .inr (.inr ⟨xs, k, hl, fun x hm => Kn.le (by omega) (hx x hm)⟩)
    | _ => exact k
theorem KnA.int {H : Hp} (i : Int) : KnA H (.int i) := fun n => by cases n <;> exact True.intro
theorem KnA.bl {H : Hp} (b : Bool) : KnA H (.bl b) := fun n => by cases n <;> exact True.intro
theorem KnA.non {H : Hp} : KnA H .non := fun n => by cases n <;> exact True.intro
theorem KnA.str {H : Hp} (x : Str) : KnA H (.str x) := fun n => by cases n <;> exact True.intro
theorem KnA.lst {H : Hp} {a : Addr} {xs : List V} (h : H a = some (.lst xs)) : KnA H (.ref a) := fun n => by cases n with | zero => exact True.intro | succ n => exact .inl ⟨xs, h⟩
theorem KnA.tup {H : Hp} {a : Addr} {xs : List V} (h : H a = some (.tup xs)) (hl : xs.length ≤ 1000) (hx : ∀ x ∈ xs, KnA H x) : KnA H (.ref a) := fun n => by
  cases n with
  | zero => exact True.intro
  | succ n => exact .inr (.inr ⟨xs, h, hl, fun x hm => hx x hm n⟩)
theorem Kn.items {H : Hp} {n : Nat} {a : Addr} {xs : List V} (k : Kn H (n + 1) (.ref a)) (h : H a = some (.tup xs)) : xs.length ≤ 1000 ∧ ∀ x ∈ xs, Kn H n x := by
  rcases k with ⟨ys, k⟩ | ⟨kvs, k⟩ | ⟨ys, k, hl, hx⟩
  · rw [h] at k; cases k
  · rw [h] at k; cases k
  · rw [h] at k; cases k; exact ⟨hl, hx⟩
noncomputable def isInt : V → Bool | .int _ => true | _ => false
noncomputable def isBl : V → Bool | .bl _ => true | _ => false
noncomputable def tupOf (H : Hp) : V → Option (List V)
  | .ref a => match H a with | some (.tup xs) => some xs | _ => none
  | _ => none
theorem tupOf_of {H : Hp} {a : Addr} {xs : List V} (h : H a = some (.tup xs)) : tupOf H (.ref a) = some xs := by simp [tupOf, h]
theorem of_tupOf {H : Hp} {v : V} {xs : List V} (h : tupOf H v = some xs) : ∃ a, v = .ref a ∧ H a = some (.tup xs) := by
  cases v with
  | ref a =>
    unfold tupOf at h
    cases e : H a with
    | none => simp [e] at h
    | some o => cases o <;> simp [e] at h; subst h; exact ⟨a, rfl, e⟩
  | _ => simp [tupOf] at h
section
variable {K : PySem.W.Frag}
theorem ty_of {H : Hp} {v : V} (k : Kn H 1 v) : ∃ t, TyOf K H v t ∧ PySem.W.kitOne K t (.type "int") = some (isInt v || isBl v) ∧ PySem.W.kitOne K t (.type "bool") = some (isBl v) ∧ PySem.W.kitOne K t (.type "tuple") = some (tupOf H v).isSome := by
  cases v with
  | non => exact ⟨_, .non, by kernel_rfl, by kernel_rfl, by kernel_rfl⟩
  | bl b => exact ⟨_, .bl b, by kernel_rfl, by kernel_rfl, by kernel_rfl⟩
  | int i => exact ⟨_, .int i, by kernel_rfl, by kernel_rfl, by kernel_rfl⟩
  | str x => exact ⟨_, .str x, by kernel_rfl, by kernel_rfl, by kernel_rfl⟩
  | ref a =>
    rcases k with ⟨xs, k⟩ | ⟨kvs, k⟩ | ⟨xs, k, hl, hx⟩
    · refine ⟨_, .lst k, by kernel_rfl, by kernel_rfl, ?_⟩
      have : (tupOf H (.ref a)).isSome = false := by simp [tupOf, k]
      rw [this]; kernel_rfl
    · refine ⟨_, .dK k, by kernel_rfl, by kernel_rfl, ?_⟩
      have : (tupOf H (.ref a)).isSome = false := by simp [tupOf, k]
      rw [this]; kernel_rfl
    · refine ⟨_, .tup k, by kernel_rfl, by kernel_rfl, ?_⟩
      have : (tupOf H (.ref a)).isSome = true := by simp [tupOf, k]
      rw [this]; kernel_rfl
  | _ => exact (show False from k).elim
end
noncomputable def numIn (lo hi : Int) : V → Bool | .int i => decide (lo ≤ i) && decide (i ≤ hi) | _ => false
noncomputable def rowOk (H : Hp) (v : V) : Bool := match tupOf H v with
  | some xs => decide (1 ≤ xs.length) && decide (xs.length ≤ 6) && xs.all (numIn (-2) 99)
  | none => false
noncomputable def nonneg : V → Bool | .int i => decide (0 ≤ i) | _ => false
noncomputable def lenOf (H : Hp) (v : V) : Nat := ((tupOf H v).getD []).length
noncomputable def cellsIn (H : Hp) (v : V) : Nat := (((tupOf H v).getD []).filter nonneg).length
noncomputable def goodM (H : Hp) (v : V) : Bool := match tupOf H v with
  | none => false
  | some rows => decide (1 ≤ rows.length) && decide (rows.length ≤ 4) && rows.all (rowOk H) && rows.all (fun r => decide (lenOf H r = lenOf H (rows.headD .non))) &&
      (decide (1 ≤ (rows.map (cellsIn H)).sum) && decide ((rows.map (cellsIn H)).sum ≤ 10))
theorem Same.tupOf {H H' : Hp} (s : Same H H') {v : V} (k : Kn H 1 v) : L2.tupOf H' v = L2.tupOf H v := by
  cases v with
  | ref a =>
    rcases k with ⟨xs, k⟩ | ⟨kvs, k⟩ | ⟨xs, k, _⟩
    · simp [L2.tupOf, k, s _ _ k]
    · simp [L2.tupOf, k, s _ _ k]
    · simp [L2.tupOf, k, s _ _ k]
  | _ => rfl
theorem Same.rowOk {H H' : Hp} (s : Same H H') {v : V} (k : Kn H 1 v) : L2.rowOk H' v = L2.rowOk H v := by unfold L2.rowOk; rw [s.tupOf k]
noncomputable def PenAt (H : Hp) (p : Addr) : Prop := ∃ x f : Int, H p = some (.lst [.int x, .int f])
structure Stp (p : Addr) (H H' : Hp) : Prop where
  pen : PenAt H' p
  keep : ∀ b o, b ≠ p → H b = some o → H' b = some o
theorem Stp.refl {p : Addr} {H : Hp} (h : PenAt H p) : Stp p H H := ⟨h, fun _ _ _ e => e⟩
theorem Stp.trans {p : Addr} {H H1 H2 : Hp} (a : Stp p H H1) (b : Stp p H1 H2) : Stp p H H2 := ⟨b.pen, fun c o h e => b.keep c o h (a.keep c o h e)⟩
theorem Stp.same {p : Addr} {H H1 H2 : Hp} (a : Stp p H H1) (s : Same H1 H2) : Stp p H H2 := ⟨let ⟨x, f, e⟩ := a.pen; ⟨x, f, s _ _ e⟩, fun b o h e => s _ _ (a.keep b o h e)⟩
theorem PenAt.ne {H : Hp} {p b : Addr} {o : HO} (h : PenAt H p) (e : H b = some o) (n : ∀ xs, o ≠ .lst xs) : b ≠ p := fun z => by
  obtain ⟨x, f, e2⟩ := h
  rw [z, e2] at e
  cases e
  exact n _ rfl
theorem Stp.ext {p : Addr} {H H' : Hp} (h : PenAt H p) (s : Stp p H H') : Ext H H' where
  tup := fun a xs e => s.keep a _ (h.ne e (by intro z; simp)) e
  lst := fun a xs e => by
    by_cases ha : a = p
    · obtain ⟨x, f, e2⟩ := s.pen
      exact ⟨_, by rw [ha]; exact e2⟩
    · exact ⟨xs, s.keep a _ ha e⟩
  dct := fun a kvs e => s.keep a _ (h.ne e (by intro z; simp)) e
end L2
namespace L2
open PySem PySem.Spec PyProof.Rows
theorem comp_map {K : PySem.W.Frag} {a l : Addr} {xs : List V} {te : TE} {H0 : Hp} {rest : St} {Q : St → Hp → Prop} (f : V → V) (ha : H0 a = some (.tup xs)) (hl : H0 l = none) (hz : xs.length ≤ 1000)
    (turn : ∀ x H' Q', x ∈ xs → Same H0 H' → (∀ H2, Same H' H2 → Q' (f x) H2) → te (some x :: rest) H' Q') (hQ : ∀ σ H', Same H0 H' → H' l = some (.lst (xs.map f)) → Q σ H') :
    tForJ (Itt K a) (gName 0) (tBodyC tAll (tEmit l te)) (eC Q) (none :: rest) (upd H0 l (.lst [])) := by
  have s0 : Same H0 (upd H0 l (.lst [])) := same_upd hl
  refine for_tup (K := K) (a := a) (xs := xs) (fun i σ H' => (∃ o, σ = o :: rest) ∧ Same H0 H' ∧ H' l = some (.lst ((xs.take i).map f))) ⟨⟨_, rfl⟩, s0, by rw [upd_same]; rfl⟩ (fun i σ H' _ h => SqT.of (h.2.1 _ _ ha)) ?_ ?_
  · rintro i x σ H' hx ⟨⟨o, rfl⟩, hs, hl'⟩
    show tEmit l te (some x :: rest) H' _
    refine turn x H' _ (List.mem_of_getElem? hx) hs fun H2 h2 => ?_
    refine ⟨_, h2 _ _ hl', ?_, ⟨_, rfl⟩, fun b u e => ?_, ?_⟩
    · rw [List.length_map, List.length_take]
      exact small1000 (by omega)
    · rw [upd_ne (ne_of_none e hl)]; exact h2 _ _ (hs _ _ e)
    · rw [upd_same, List.take_succ, hx, List.map_append]; rfl
  · rintro σ H' ⟨_, hs, hl'⟩
    rw [List.take_of_length_le (Nat.le_refl _)] at hl'
    exact hQ σ H' hs hl'
theorem body_all {tb : TC} {D : Ends} {σ : St} {H : Hp} (h : tb σ H D.nx) : tBodyC tAll tb D σ H := by
  show (if true = true then tb σ H D.nx else D.nx σ H)
  exact iteT h
theorem body_name {i : Nat} {v : V} {tb : TC} {D : Ends} {σ : St} {H : Hp} (h : tb (σ.set i (some v)) H D.nx) : gName i v σ H (fun σ2 H2 => tBodyC tAll tb D σ2 H2) := body_all h
theorem iteB {b : Bool} {A B : Prop} (h1 : b = true → A) (h2 : b = false → B) : if b = true then A else B := by
  cases b with
  | true => exact iteT (h1 rfl)
  | false => exact iteF (h2 rfl)
theorem ite2d {c : Prop} [Decidable c] {A B : Prop} (h1 : c → A) (h2 : ¬ c → B) : if decide c = true then A else B := by
  by_cases h : c
  · rw [decide_eq_true h]; exact iteT (h1 h)
  · rw [decide_eq_false h]; exact iteF (h2 h)
end L2
namespace L2
open PySem PySem.Spec PyProof.Rows
noncomputable def rowCells (at' : Nat) (xs : List V) : List (Int × Int) := xs.zipIdx.filterMap fun p => if nonneg p.1 then some ((at' : Int), (p.2 : Int)) else none
noncomputable def allCells (H : Hp) (rows : List V) : List (Int × Int) := (rows.zipIdx.map fun p => rowCells p.2 ((tupOf H p.1).getD [])).flatten
theorem zipIdx_take {α : Type} (xs : List α) (i : Nat) (x : α) (h : xs[i]? = some x) : (xs.take (i + 1)).zipIdx = (xs.take i).zipIdx ++ [(x, i)] := by
  have hlt : i < xs.length := (List.getElem?_eq_some_iff.mp h).1
  rw [List.take_succ, h, List.zipIdx_append]
  simp
  omega
theorem rowCells_succ (at' : Nat) (xs : List V) (i : Nat) (x : V) (h : xs[i]? = some x) : rowCells at' (xs.take (i + 1)) = rowCells at' (xs.take i) ++ (if nonneg x then [((at' : Int), (i : Int))] else []) := by
  unfold rowCells
  rw [zipIdx_take xs i x h, List.filterMap_append]
  congr 1
  by_cases hn : nonneg x = true
  · simp [hn]
  · simp [hn]
theorem allCells_succ (H : Hp) (rows : List V) (i : Nat) (r : V) (h : rows[i]? = some r) : allCells H (rows.take (i + 1)) = allCells H (rows.take i) ++ rowCells i ((tupOf H r).getD []) := by
  unfold allCells
  rw [zipIdx_take rows i r h, List.map_append, List.flatten_append]
  simp
theorem rowCells_length (at' : Nat) (xs : List V) : (rowCells at' xs).length = (xs.filter nonneg).length := by
  unfold rowCells
  have go : ∀ (xs : List V) (n : Nat), ((xs.zipIdx n).filterMap fun p => if nonneg p.1 then some ((at' : Int), (p.2 : Int)) else none).length = (xs.filter nonneg).length := by
    intro xs
    induction xs with
    | nil => intro n; rfl
    | cons x xs ih =>
      intro n
      rw [List.zipIdx_cons]
      by_cases hn : nonneg x = true
      · rw [List.filterMap_cons_some (b := ((at' : Int), (n : Int))) (by simp [hn]), List.filter_cons_of_pos hn, List.length_cons, List.length_cons, ih]
      · rw [List.filterMap_cons_none (by simp [hn]), List.filter_cons_of_neg hn, ih]
  exact go xs 0
theorem allCells_length (H : Hp) (rows : List V) : (allCells H rows).length = (rows.map (cellsIn H)).sum := by
  unfold allCells
  rw [List.length_flatten, List.map_map]
  have go : ∀ (rows : List V) (n : Nat), ((rows.zipIdx n).map (List.length ∘ fun p => rowCells p.2 ((tupOf H p.1).getD []))).sum = (rows.map (cellsIn H)).sum := by
    intro rows
    induction rows with
    | nil => intro n; rfl
    | cons r rows ih =>
      intro n
      rw [List.zipIdx_cons, List.map_cons, List.sum_cons, List.map_cons, List.sum_cons, ih]
      congr 1
      exact rowCells_length _ _
  exact go rows 0
noncomputable def PlAt (H : Hp) (ps : List Addr) (cs : List (Int × Int)) : Prop := Paired (fun p c => H p = some (.tup [.int c.1, .int c.2])) ps cs
theorem PlAt.same {H H' : Hp} {ps : List Addr} {cs : List (Int × Int)} (h : PlAt H ps cs) (s : Same H H') : PlAt H' ps cs := Paired.mapP h fun _ _ e => s _ _ e
theorem PlAt.snoc {H : Hp} {ps : List Addr} {cs : List (Int × Int)} {p : Addr} {c : Int × Int} (h : PlAt H ps cs) (e : H p = some (.tup [.int c.1, .int c.2])) : PlAt H (ps ++ [p]) (cs ++ [c]) := Paired.snoc h e
noncomputable def RowsAt (H : Hp) (rows : List V) : Prop := rows.length ≤ 4 ∧ ∀ r ∈ rows, ∃ b xs, r = .ref b ∧ H b = some (.tup xs) ∧ xs.length ≤ 6 ∧ ∀ x ∈ xs, ∃ i, x = .int i
theorem RowsAt.same {H H' : Hp} {rows : List V} (h : RowsAt H rows) (s : Same H H') : RowsAt H' rows := ⟨h.1, fun r hr => let ⟨b, xs, e, hb, hl, hx⟩ := h.2 r hr; ⟨b, xs, e, s _ _ hb, hl, hx⟩⟩
theorem comp_cells {K : PySem.W.Frag} {a l : Addr} {rows : List V} {H0 : Hp} {tt2 : TT} {Q : St → Hp → Prop} (ha : H0 a = some (.tup rows)) (hl : H0 l = none) (hr : RowsAt H0 rows)
    (htt : ∀ (at' k : Nat) (r : V) (i : Int) H' (Q' : Bool → Hp → Prop), Q' (nonneg (.int i)) H' → tt2 [some (.int at'), some r, some (.int k), some (.int i)] H' Q')
    (hQ : ∀ σ H' ps, Same H0 H' → H' l = some (.lst (ps.map V.ref)) → PlAt H' ps (allCells H0 rows) → Q σ H') :
    tForJ (Ite fun H xs => SqT K H a xs) (gTup K 2 (gCons (gName 0) (gCons (gName 1) gNil))) (tBodyC tAll (tNest (iEnumT K (tCons (tVar 1) tNil)) (gTup K 2 (gCons (gName 2) (gCons (gName 3) gNil))) tt2 (tEmit l (tTup (tCons (tVar 0) (tCons (tVar 2) tNil)))))) (eC Q) [none, none, none, none] (upd H0 l (.lst [])) := by
  have s0 : Same H0 (upd H0 l (.lst [])) := same_upd hl
  refine for_enum (xs := rows) (fun i σ H' => σ.length = 4 ∧ Same H0 H' ∧ ∃ ps, H' l = some (.lst (ps.map V.ref)) ∧ PlAt H' ps (allCells H0 (rows.take i)) ∧ ps.length ≤ 6 * i) ⟨rfl, s0, [], by rw [upd_same]; rfl, .nil, Nat.zero_le _⟩ (fun i σ H' _ h => SqT.of (h.2.1 _ _ ha)) ?_ ?_
  · rintro i r p σ H' hx ⟨hσ, hs, ps, hl', hP, hn⟩ hp
    obtain ⟨b, xs, rfl, hb, hx6, hxi⟩ := hr.2 r (List.mem_of_getElem? hx)
    have hi4 : i < 4 := Nat.lt_of_lt_of_le (List.getElem?_eq_some_iff.mp hx).1 hr.1
    have s1 : Same H' (upd H' p (.tup [.int i, .ref b])) := same_upd hp
    have hb1 : tupOf H0 (.ref b) = some xs := tupOf_of hb
    match σ, hσ with
    | [x0, x1, x2, x3], _ =>
    refine ⟨p, _, rfl, SqT.of upd_same, rfl, _, _, rfl, _, _, rfl, rfl, ?_⟩
    refine body_all ?_
    refine ⟨_, rfl, b, xs, rfl, SqT.of (s1 _ _ (hs _ _ hb)), ?_⟩
    refine for_enum (xs := xs) (fun j σ H2 => (∃ y2 y3, σ = [some (.int i), some (.ref b), y2, y3]) ∧ Same H0 H2 ∧ ∃ ps, H2 l = some (.lst (ps.map V.ref)) ∧ PlAt H2 ps (allCells H0 (rows.take i) ++ rowCells i (xs.take j)) ∧ ps.length ≤ 6 * i + j) ?_ (fun j σ H2 _ h => SqT.of (h.2.1 _ _ hb)) ?_ ?_
    · exact ⟨⟨x2, x3, rfl⟩, hs.trans s1, ps, s1 _ _ hl', by simpa [rowCells] using hP.same s1, hn⟩
    · rintro j x p2 σ H2 hxj ⟨⟨y2, y3, rfl⟩, hs2, ps2, hl2, hP2, hn2⟩ hp2
      obtain ⟨z, rfl⟩ := hxi x (List.mem_of_getElem? hxj)
      have hj6 : j < 6 := Nat.lt_of_lt_of_le (List.getElem?_eq_some_iff.mp hxj).1 hx6
      have s2 : Same H2 (upd H2 p2 (.tup [.int j, .int z])) := same_upd hp2
      refine ⟨p2, _, rfl, SqT.of upd_same, rfl, _, _, rfl, _, _, rfl, rfl, ?_⟩
      refine htt i j (.ref b) z _ _ (iteB (fun e => ?_) fun e => ?_)
      · refine ⟨_, rfl, _, rfl, (by show 2 ≤ sizeLine; decide), fun q hq => ?_⟩
        have s3 := same_upd (o := .tup [.int i, .int j]) hq
        have hlq : l ≠ q := ne_of_none (s2 _ _ hl2) hq
        refine ⟨_, s3 _ _ (s2 _ _ hl2), small1000 (by rw [List.length_map]; omega), ⟨_, _, rfl⟩, fun b' u e' => ?_, ps2 ++ [q], ?_, ?_, ?_⟩
        · rw [upd_ne (ne_of_none e' hl)]; exact s3 _ _ (s2 _ _ (hs2 _ _ e'))
        · rw [upd_same, List.map_append]; rfl
        · have hne : ∀ b' u, (upd (upd H2 p2 (.tup [.int j, .int z])) q (.tup [.int i, .int j])) b' = some (.tup u) → (upd (upd (upd H2 p2 (.tup [.int j, .int z])) q (.tup [.int i, .int j])) l (.lst (ps2.map V.ref ++ [.ref q]))) b' = some (.tup u) := fun b' u e' => by
            rw [upd_ne (fun z' => ?_)]; exact e'
            rw [z', upd_ne hlq, s2 _ _ hl2] at e'; cases e'
          rw [rowCells_succ i xs j _ hxj, if_pos e, ← List.append_assoc]
          exact PlAt.snoc (Paired.mapP ((hP2.same s2).same s3) fun _ _ e' => hne _ _ e') (hne _ _ upd_same)
        · rw [List.length_append]; show ps2.length + 1 ≤ _; omega
      · refine ⟨⟨_, _, rfl⟩, hs2.trans s2, ps2, s2 _ _ hl2, ?_, by omega⟩
        rw [rowCells_succ i xs j _ hxj, if_neg (by rw [e]; decide), List.append_nil]
        exact hP2.same s2
    · rintro σ H2 ⟨⟨y2, y3, rfl⟩, hs2, ps2, hl2, hP2, hn2⟩
      refine ⟨rfl, hs2, ps2, hl2, ?_, by omega⟩
      rw [List.take_of_length_le (Nat.le_refl _)] at hP2
      rw [allCells_succ H0 rows i _ hx, hb1]
      exact hP2
  · rintro σ H' ⟨_, hs, ps, hl', hP, _⟩
    rw [List.take_of_length_le (Nat.le_refl _)] at hP
    exact hQ σ H' ps hs hl' hP
end L2
namespace L2
open PySem PySem.Spec PyProof.Rows
section
variable {X : Cx}
end
end L2
namespace Srt
theorem lex_irr : ∀ xs : List Int, HT.lexLt xs xs = false
  | [] => rfl
  | x :: xs => by rw [HT.lexLt_cons, if_pos rfl]; exact lex_irr xs
theorem lex_tr : ∀ {xs ys zs : List Int}, HT.lexLt xs ys = true → HT.lexLt ys zs = true → HT.lexLt xs zs = true
  | [], [], _, h, _ => by cases h
  | [], _ :: _, [], _, h => by cases h
  | [], _ :: _, _ :: _, _, _ => rfl
  | _ :: _, [], _, h, _ => by cases h
  | _ :: _, _ :: _, [], _, h => by cases h
  | x :: xs, y :: ys, z :: zs, h1, h2 => by
    rw [HT.lexLt_cons] at h1 h2 ⊢
    by_cases e1 : x = y
    · subst e1
      rw [if_pos rfl] at h1
      by_cases e2 : x = z
      · subst e2
        rw [if_pos rfl] at h2 ⊢
        exact lex_tr h1 h2
      · rw [if_neg e2] at h2 ⊢; exact h2
    · rw [if_neg e1, decide_eq_true_eq] at h1
      by_cases e2 : y = z
      · subst e2
        rw [if_neg e1, decide_eq_true_eq]; exact h1
      · rw [if_neg e2, decide_eq_true_eq] at h2
        rw [if_neg (by omega), decide_eq_true_eq]; omega
theorem lex_tot : ∀ {xs ys : List Int}, HT.lexLt xs ys = false → HT.lexLt ys xs = false → xs = ys
  | [], [], _, _ => rfl
  | [], _ :: _, h, _ => by cases h
  | _ :: _, [], _, h => by cases h
  | x :: xs, y :: ys, h1, h2 => by
    rw [HT.lexLt_cons] at h1 h2
    by_cases e : x = y
    · subst e
      rw [if_pos rfl] at h1 h2
      rw [lex_tot h1 h2]
    · rw [if_neg e, decide_eq_false_iff_not] at h1
      rw [if_neg (fun z => e z.symm), decide_eq_false_iff_not] at h2
      omega
noncomputable def rank (rows : List (List Int)) (x : List Int) : Int := (rows.countP fun z => HT.lexLt z x : Nat)
theorem count_le {α : Type} {p q : α → Bool} : ∀ {l : List α}, (∀ a ∈ l, p a = true → q a = true) → l.countP p ≤ l.countP q
  | [], _ => by simp
  | a :: l, h => by
    have ih := count_le (p := p) (q := q) (l := l) fun b hb => h b (List.mem_cons_of_mem _ hb)
    rw [List.countP_cons, List.countP_cons]
    have := h a List.mem_cons_self
    cases hp : p a <;> cases hq : q a <;> simp_all <;> omega
theorem count_lt {α : Type} {p q : α → Bool} {x : α} : ∀ {l : List α}, (∀ a ∈ l, p a = true → q a = true) → x ∈ l → p x = false → q x = true → l.countP p < l.countP q
  | [], _, hx, _, _ => by cases hx
  | a :: l, h, hx, hp, hq => by
    have hl : ∀ b ∈ l, p b = true → q b = true := fun b hb => h b (List.mem_cons_of_mem _ hb)
    rw [List.countP_cons, List.countP_cons]
    rcases List.mem_cons.mp hx with e | e
    · subst e
      have := count_le hl
      rw [hp, hq]
      simp
      omega
    · have ih := count_lt hl e hp hq
      have := h a List.mem_cons_self
      cases hp' : p a <;> cases hq' : q a <;> simp_all <;> omega
theorem rank_lt {rows : List (List Int)} {x y : List Int} (hx : x ∈ rows) (hy : y ∈ rows) : decide (rank rows x < rank rows y) = HT.lexLt x y := by
  unfold rank
  cases h : HT.lexLt x y with
  | true =>
    rw [decide_eq_true_eq]
    have := count_lt (l := rows) (p := fun z => HT.lexLt z x) (q := fun z => HT.lexLt z y) (fun a _ ha => lex_tr ha h) hx (lex_irr x) h
    omega
  | false =>
    rw [decide_eq_false_iff_not]
    have : rows.countP (fun z => HT.lexLt z y) ≤ rows.countP (fun z => HT.lexLt z x) := by
      refine count_le fun a _ ha => ?_
      cases h2 : HT.lexLt y x with
      | true => exact lex_tr ha h2
      | false => rw [lex_tot h h2]; exact ha
    omega
end Srt
namespace L2
open PySem PySem.Spec PyProof.Rows Srt
section
variable {prog : Program} {w : World} {A : Around}
theorem lex_same {C : Bool → Shared → Prop} {s : Shared} {b : Bool} : ∀ {xs ys : List Int} {us ws : List Value} (i : Nat), Vals (xs.map V.int) us → Vals (ys.map V.int) ws → C (HT.lexLt xs ys) s →
    PySem.W.KatLex prog w A b (decide (xs.length < ys.length)) C (us.zip ws) i s
  | [], [], _, _, i, .nil, .nil, h => by
    show C (decide (0 < 0)) s
    exact h
  | [], y :: ys, _, _, i, .nil, .cons _ _, h => by
    show C (decide (0 < ys.length + 1)) s
    rw [decide_eq_true (by omega)]; exact h
  | x :: xs, [], _, _, i, .cons _ _, .nil, h => by
    show C (decide (xs.length + 1 < 0)) s
    rw [decide_eq_false (by omega)]; exact h
  | x :: xs, y :: ys, _, _, i, .cons r1 t1, .cons r2 t2, h => by
    obtain ⟨t, rfl⟩ := r1
    obtain ⟨u, rfl⟩ := r2
    rw [HT.lexLt_cons] at h
    refine PySem.W.kat_cons (wpAny_eqBool_int ?_)
    by_cases e : x = y
    · subst e
      rw [if_pos rfl] at h
      rw [show (x == x) = true by simp]
      refine PySem.W.kat_yes ?_
      have := lex_same (b := b) (i + 1) t1 t2 h
      rw [show decide ((x :: xs).length < (x :: ys).length) = decide (xs.length < ys.length) by simp]
      exact this
    · rw [if_neg e] at h
      rw [show (x == y) = false by simpa using e]
      refine PySem.W.kat_no ?_
      cases b && i == 0 with
      | true => exact oneLt_int h
      | false => exact PySem.W.kat_one _ _ (PyProof.Rows.lt_int (show PySem.W.BoolBack C (Value.bool (decide (x < y))) s from h))
end
theorem refs_of : ∀ {as : List Addr} {us : List Value}, Vals (as.map V.ref) us → us = as.map Value.ref
  | [], _, .nil => rfl
  | a :: as, _, .cons r t => by rw [refs_of t]; cases (show _ = Value.ref a from r); rfl
theorem vals_fst : ∀ zs : List (Addr × List Int), Vals (zs.map fun z => V.ref z.1) (zs.map fun z => Value.ref z.1)
  | [] => .nil
  | z :: zs => .cons rfl (vals_fst zs)
section
variable {X : Cx}
noncomputable def Sorted2 (zs zs' : List (Addr × List Int)) : Prop := zs'.Perm zs ∧ zs'.Pairwise fun a b => HT.lexLt b.2 a.2 = false
theorem sorted_out {zs : List (Addr × List Int)} {p : Array Nat} (hp : Pm zs.length p) (hu : Up (fun i => rank (zs.map (·.2)) ((zs.getD i (0, [])).2)) p zs.length) : Sorted2 zs (p.toList.map fun i => zs.getD i (0, [])) := by
  have hperm := Array.perm_iff_toList_perm.mp hp
  constructor
  · have h1 := hperm.map fun i => zs.getD i (0, [])
    refine h1.trans (List.Perm.of_eq ?_)
    refine List.ext_getElem (by simp) fun i a b => ?_
    simp [b]
  · rw [List.pairwise_map, List.pairwise_iff_getElem]
    intro i j hi hj hij
    have hsz : p.toList.length = zs.length := by rw [Array.length_toList, hp.size]
    have h1 := hu i j (by omega) (by omega)
    have mem : ∀ k (hk : k < p.toList.length), (zs.getD (p.toList[k]'hk) (0, [])).2 ∈ zs.map (·.2) := fun k hk => by
      have : p.toList[k] < zs.length := by
        have := hperm.mem_iff.mp (List.getElem_mem hk)
        simpa using this
      have e : zs.getD p.toList[k] (0, []) = zs[p.toList[k]] := by rw [List.getD_eq_getElem?_getD, List.getElem?_eq_getElem this]; rfl
      rw [e]
      exact List.mem_map_of_mem (List.getElem_mem _)
    have e : ∀ k (hk : k < p.toList.length), at' p k = p.toList[k] := fun k hk => by
      have : k < p.size := by simpa using hk
      unfold at'; simp [Array.getD, this]
    unfold R at h1
    rw [e i hi, e j hj] at h1
    rw [← rank_lt (mem j hj) (mem i hi), decide_eq_false_iff_not]
    exact Int.not_lt.mpr h1
theorem sorted_gen {pins : List (Addr × Obj)} {s : Shared} {σ : St} {H : Hp} {Q : VK} {p : Addr} {zs : List (Addr × List Int)} (I : Inv X pins σ H s) (hz : ∀ z ∈ zs, H z.1 = some (.tup (z.2.map V.int)) ∧ z.2 ≠ []) (h64 : zs.length < 64)
    (hcol : ∀ Q' : List Value → Shared → Prop, (∀ h1 tk, (∀ b o, s.heap.get? b = some o → h1.get? b = some o) → s.heap.objs.size ≤ h1.objs.size → Q' (zs.map fun z => Value.ref z.1) { s with heap := h1, toks := tk }) → wpAny (model X.prog X.w) X.A.in1 (collect (.ref p)) Q' X.xe s)
    (q : ∀ l zs', H l = none → Sorted2 zs zs' → Q (.ref l) (upd H l (.lst (zs'.map fun z => V.ref z.1)))) : wpAny (model X.prog X.w) X.A (call (.builtin "sorted") [.ref p]) (EP X pins σ Q) X.xe s := by
  have tup : ∀ (h' : Heap), (∀ b o, s.heap.get? b = some o → h'.get? b = some o) → ∀ z ∈ zs, ∃ it : List Value, Vals (z.2.map V.int) it ∧ ∃ o n, h'.get? z.1 = some o ∧ o.cls = .type "tuple" ∧ o.data = .seq it.toArray n := fun h' k z hm => by
    obtain ⟨_, it, rt, o, ho, hc, n, hd⟩ := (show ObjOk X.prog X.w H s.heap z.1 (.tup _) from I.hok _ _ (hz z hm).1)
    exact ⟨it, rt, o, n, k _ _ ho, hc, hd⟩
  have gd : ∀ i, i < zs.length → (zs.map fun z => Value.ref z.1).getD i Value.none = .ref (zs.getD i (0, [])).1 ∧ zs.getD i (0, []) ∈ zs := fun i hi => by
    constructor
    · simp [hi]
    · rw [show zs.getD i (0, []) = zs[i] by simp [hi]]; exact List.getElem_mem _
  refine sorted_raw (κ := tuples' true) (r := fun i => rank (zs.map (·.2)) ((zs.getD i (0, [])).2)) (vs := zs.map fun z => Value.ref z.1) (by rw [List.length_map]; exact h64) (fun Q' k => ?_) (fun h1 tk k1 h2 => ⟨fun Q2 q2 => ?_, fun i j C hi hj hC => ?_⟩) fun D h' tk c pp hD hp hu o' k' => ?_
  · exact hcol Q' k
  · have key : ∀ ys : List (Addr × List Int), (∀ z ∈ ys, z ∈ zs) → ∃ fs : List Value, PySem.W.KatTups h1 (ys.map fun z => Value.ref z.1) fs ∧ fs.length = ys.length ∧ ∀ v ∈ fs, ∃ n t, v = .int n t := fun ys => by
      induction ys with
      | nil => intro _; exact ⟨[], trivial, rfl, fun v hv => by cases hv⟩
      | cons z ys ih =>
        intro hm
        obtain ⟨fs, g1, g2, g3⟩ := ih fun y hy => hm y (List.mem_cons_of_mem _ hy)
        obtain ⟨it, rt, o, n, ho, hc, hd⟩ := tup h1 k1 z (hm z List.mem_cons_self)
        obtain ⟨x, xs', ex⟩ := List.exists_cons_of_ne_nil (hz z (hm z List.mem_cons_self)).2
        rw [ex] at rt
        cases rt with
        | cons r0 t0 =>
          obtain ⟨t, rfl⟩ := r0
          exact ⟨.int x t :: fs, PySem.W.KatTups.cons ho hc hd (by simp) g1, by simp [g2], fun v hv => by
            rcases List.mem_cons.mp hv with e | e
            · exact ⟨x, t, e⟩
            · exact g3 v e⟩
    obtain ⟨fs, g1, g2, g3⟩ := key zs fun z hz => hz
    rw [List.length_map] at h2
    refine PySem.W.kat_kind (T := .type "int") (s := { s with heap := h1, toks := tk }) g1 (by omega) (fun v hv => ?_) rfl q2
    obtain ⟨n, t, rfl⟩ := g3 v hv
    exact PySem.W.Looks.of_pure rfl
  · rw [List.length_map] at hi hj
    obtain ⟨ei, mi⟩ := gd i hi
    obtain ⟨ej, mj⟩ := gd j hj
    show wpAny _ _ (keyLt' (tuples' true) ((zs.map fun z => Value.ref z.1).getD i Value.none) ((zs.map fun z => Value.ref z.1).getD j Value.none)) C (fun _ _ => False) _
    rw [ei, ej]
    obtain ⟨it, rt, o, n, ho, hc, hd⟩ := tup h1 k1 _ mi
    obtain ⟨it2, rt2, o2, n2, ho2, hc2, hd2⟩ := tup h1 k1 _ mj
    rw [rank_lt (List.mem_map_of_mem mi) (List.mem_map_of_mem mj)] at hC
    refine PySem.W.kat_lt (s := { s with heap := h1, toks := tk }) ho hd ho2 hd2 ?_
    have l1 := rt.length
    have l2 := rt2.length
    rw [List.length_map] at l1 l2
    rw [List.size_toArray, List.size_toArray, ← l1, ← l2]
    exact lex_same 0 rt rt2 hC
  · rw [List.length_map] at hp hu
    have so := sorted_out hp hu
    have eo : (pp.toList.map fun i => (zs.map fun z => Value.ref z.1).getD i Value.none) = (pp.toList.map fun i => zs.getD i (0, [])).map fun z => Value.ref z.1 := by
      rw [List.map_map]
      refine List.map_congr_left fun i hi => ?_
      have : i < zs.length := by
        have := (Array.perm_iff_toList_perm.mp hp).mem_iff.mp hi
        simpa using this
      exact (gd i this).1
    rw [eo] at o'
    have hlen := so.1.length_eq
    refine ⟨.ref D, _, I.laid (t' := tk) (o := .lst ((pp.toList.map fun i => zs.getD i (0, [])).map fun z => V.ref z.1)) k' hD ⟨by rw [List.length_map, hlen, sizeLine_eq]; omega, _, c, ?_, o'⟩, rfl, q _ _ (I.hok.fresh hD) so⟩
    exact vals_fst _
theorem call_sortedT : CallR X (.builtin "sorted") (fun xs H Q => ∃ (p : Addr) (zs : List (Addr × List Int)), xs = [.ref p] ∧ SqL X.K H p (zs.map fun z => V.ref z.1) ∧ (∀ z ∈ zs, H z.1 = some (.tup (z.2.map V.int)) ∧ z.2 ≠ []) ∧ zs.length < 64 ∧
    ∀ l zs', H l = none → Sorted2 zs zs' → Q (.ref l) (upd H l (.lst (zs'.map fun z => V.ref z.1)))) := by
  intro pins s σ H xs us Q I r h
  obtain ⟨p, zs, rfl, hq, hz, h64, q⟩ := h
  obtain ⟨u, rfl, rx⟩ := vals1 r
  cases rx
  obtain ⟨its, rv, pl, _⟩ := I.list hq
  have hits : its = zs.map fun z => Value.ref z.1 := by
    have := refs_of (as := zs.map (·.1)) (us := its) (by rw [List.map_map]; exact rv)
    rw [this, List.map_map]; rfl
  subst hits
  have isl := pl.isList
  refine sorted_gen I hz h64 (fun Q' k => ?_) q
  refine collect_list isl ?_ (by rw [List.length_map, sizeLine_eq]; omega)
  refine k _ s.toks (fun b o e => ?_) (by rw [Heap.size_update, size_push']; exact Nat.le_succ _)
  rw [Heap.get?_update_ne _ _ _ _ (Nat.ne_of_lt (Heap.lt_size e))]
  exact Heap.get?_push_of_some _ e
end
end L2
namespace L2
open PySem PySem.Spec PyProof.Rows
theorem Ext.updL {H : Hp} {l : Addr} {xs ys : List V} (h : H l = some (.lst xs)) : Ext H (upd H l (.lst ys)) where
  tup := fun a zs e => by rw [upd_ne (ne_of e h (by simp))]; exact e
  lst := fun a zs e => by
    by_cases ha : a = l
    · exact ⟨ys, by rw [ha, upd_same]⟩
    · exact ⟨zs, by rw [upd_ne ha]; exact e⟩
  dct := fun a zs e => by rw [upd_ne (ne_of e h (by simp))]; exact e
theorem Stp.updL {p l : Addr} {H H1 : Hp} {ys : List V} (s : Stp p H H1) (hl : H l = none) (hp : PenAt H p) : Stp p H (upd H1 l (.lst ys)) := by
  obtain ⟨x, f, e⟩ := hp
  have hne : p ≠ l := ne_of_none e hl
  obtain ⟨x', f', e'⟩ := s.pen
  exact ⟨⟨x', f', by rw [upd_ne hne]; exact e'⟩, fun b o hb h => by rw [upd_ne (ne_of_none h hl)]; exact s.keep b o hb h⟩
end L2
namespace L2
open PySem PySem.Spec PyProof.Rows
theorem ObjOk.isThere {P : Program} {w : World} {H : Hp} {h : Heap} {a : Addr} {o : HO} (x : ObjOk P w H h a o) : ∃ u, h.get? a = some u := by
  cases o with
  | lst xs => obtain ⟨_, _, _, _, e⟩ := x; exact ⟨_, e⟩
  | tup xs => obtain ⟨_, _, _, u, e, _⟩ := x; exact ⟨u, e⟩
  | dK kvs => obtain ⟨_, _, _, _, o, _, _, e, _⟩ := x; exact ⟨_, e⟩
  | dT kvs => obtain ⟨_, _, _, _, o, _, _, e, _⟩ := x; exact ⟨_, e⟩
  | set S n => obtain ⟨o, _, _, _, e, _⟩ := x; exact ⟨_, e⟩
  | ins C dx fs => obtain ⟨_, _, _, e, _⟩ := x; exact ⟨_, e⟩
  | own y => exact x
  | xd fs => obtain ⟨_, ⟨_, _, _, e, _⟩, _⟩ := x; exact ⟨_, e⟩
  | rng lo hi => obtain ⟨_, _, _, e⟩ := x; exact ⟨_, e⟩
  | frz ob u => obtain ⟨e, _⟩ := x; exact ⟨_, e⟩
  | tbl ps => exact ⟨_, (show h.get? a = some _ from x)⟩
  | met f y => exact ⟨_, (show h.get? a = some _ from x)⟩
  | ext φ => obtain ⟨_, e, _⟩ := x; exact e
theorem HOk.tracked {P : Program} {w : World} {H : Hp} {h h' : Heap} (ok : HOk P w H h) (k : ∀ b u o, H b = some u → h.get? b = some o → h'.get? b = some o) : HOk P w H h' := fun a o e =>
  (ok a o e).stay (fun b u hb q => by
    rcases hb with z | z
    · subst z; exact k _ _ _ e q
    · exact k _ _ _ z q) (fun _ q => q) fun _ _ q => q
structure Fly (P : Program) (w : World) (outer : List Env) (H : Hp) (s : Shared) (e : Addr) (cls : Value) (H' : Hp) (s' : Shared) : Prop where
  os : s'.os = s.os
  bare : AllBare s'.gens
  un : Un (frs outer) [] H H' s.heap s'.heap
  hok : HOk P w H' s'.heap
  fly : ∃ B a0, Heap.FlyingW B outer e cls a0 s'.heap ∧ (∀ b o, s.heap.get? b = some o → H b = none → b ∉ frs outer → B.get? b = some o) ∧ (∀ b o, s.heap.get? b = some o → b ∉ frs outer → ∃ o', B.get? b = some o') ∧ ∀ b u, H' b = some u → ∃ o, B.get? b = some o
noncomputable def CX1 (P : Program) (w : World) : CXT := fun outer H s E e s' => ∃ a cls H', e = .ref a ∧ Fly P w outer H s a cls H' s' ∧ E cls none H'
theorem frs_cons {env : Env} {l : List Env} {b : Addr} (h : b ∈ frs l) : b ∈ frs (env :: l) := by
  obtain ⟨e, he, hb⟩ := List.mem_filterMap.mp h
  exact List.mem_filterMap.mpr ⟨e, List.mem_cons_of_mem _ he, hb⟩
section
variable {X : Cx} {pins : List (Addr × Obj)} {σ : St} {H H' : Hp} {s s' : Shared} {cls : Value} {e : Addr} {Q : Unit → Shared → Prop} {E' : Value → Shared → Prop}
theorem Inv.notOwn (I : Inv X pins σ H s) {b : Addr} {o : Obj} (q : X.s₀.heap.get? b = some o) (hb : b ∉ X.fs) : b ∉ frs X.stack := fun hm => by
  rcases List.mem_cons.mp (I.stkSub b hm) with z | z
  · exact absurd (Nat.lt_of_lt_of_le (Heap.lt_size q) I.ok.above) (by rw [z]; exact Nat.lt_irrefl _)
  · exact hb z
theorem raise_out (I : Inv X pins σ H s) (hs : X.stack = X.env :: X.outer) (hf : X.env.frame = some X.env.locals) (hex : X.ex = []) {h1 : Heap} {args : List Value} (hx : Heap.MadeExcOf s.heap h1 e cls args)
    (k : ∀ h', Fly X.prog X.w X.outer X.H₀ X.s₀ e cls H { s with heap := h' } → Q () { s with heap := h' }) : wpAny (model X.prog X.w) X.A (leaving X.env (.ref e)) Q E' { s with heap := h1 } := by
  have st : s.heap.FunFrames X.base X.stack := I.stack
  have hin : ∀ env ∈ X.stack, ∀ b, env.frame = some b → b ∈ frs X.stack := fun env he b hb => List.mem_filterMap.mpr ⟨env, he, hb⟩
  have fB := PySem.W.funFrames_hide (as := frs X.stack) st hin
  have hfr := I.ok.frames
  rw [hs] at hfr fB
  refine wpAny_leaves_madeW (base := PySem.W.hideAll s.heap (frs X.stack)) (h := s.heap) hfr hf (fun b o q => PySem.W.of_hideAll _ q) (by rw [hs]; exact fB) hx fun h' t x1 x2 x3 x4 => k h' ?_
  have nex : ∀ b, b ∉ X.ex := fun b hb => by rw [hex] at hb; cases hb
  have kB : ∀ b o, s.heap.get? b = some o → b ∉ frs X.stack → (PySem.W.hideAll s.heap (frs X.stack)).get? b = some o := fun b o q n => PySem.W.hideAll_get _ q n
  have kS : ∀ b o, s.heap.get? b = some o → b ∈ frs X.stack → ∃ sl, h'.get? b = some { o with slots := sl } := fun b o q hb => x4 b o (hx.keeps b o q) (by
    obtain ⟨_, o', ho', hd⟩ := st.mem hb
    rw [q] at ho'; cases ho'; exact hd)
  have kT : ∀ b u, H b = some u → b ∉ frs X.stack := fun b u q hb => by
    have := I.stkFree b hb
    rw [q] at this; cases this
  have up : ∀ {b : Addr}, b ∈ X.fs → b ∈ frs X.stack := fun hb => by rw [hs]; exact frs_cons hb
  refine ⟨I.os, I.bare, ⟨fun b o q n hb _ => ?_, fun b o q n hb _ => ?_, fun b o q n _ => I.base.free b o q n (nex b), fun b o q _ => ?_, I.base.tups, I.base.frzs, I.base.tbls⟩, I.hok.tracked fun b u o q z => x1.1 b o (kB b o z (kT b u q)), _, _, x1, fun b o q n hb => ?_, fun b o q hb => ?_, fun b u q => ?_⟩
  · exact x1.1 b o (kB b o (I.base.keep b o q n hb (nex b)) (I.notOwn q hb))
  · obtain ⟨sl, e1⟩ := I.base.slot b o q n hb (nex b)
    obtain ⟨sl', e2⟩ := kS b _ e1 (up hb)
    exact ⟨sl', e2⟩
  · obtain ⟨o', e1⟩ := I.base.there b o q (nex b)
    by_cases hm : b ∈ frs X.stack
    · obtain ⟨sl, e2⟩ := kS b o' e1 hm; exact ⟨_, e2⟩
    · exact ⟨o', x1.1 b o' (kB b o' e1 hm)⟩
  · exact kB b o (I.base.keep b o q n hb (nex b)) (I.notOwn q hb)
  · obtain ⟨o', e1⟩ := I.base.there b o q (nex b)
    exact ⟨o', kB b o' e1 (I.notOwn q hb)⟩
  · obtain ⟨o, e1⟩ := (I.hok b u q).isThere
    exact ⟨o, kB b o e1 (kT b u q)⟩
theorem Fly.over (I : Inv X pins σ H s) (hs : X.stack = X.env :: X.outer) (hex : X.ex = []) (F : Fly X.prog X.w X.stack H s e cls H' s') {B : Heap} {a0 : Value} (hfl : Heap.FlyingW B X.stack e cls a0 s'.heap)
    (g1 : ∀ b o, s.heap.get? b = some o → H b = none → b ∉ frs X.stack → B.get? b = some o) (g2 : ∀ b o, s.heap.get? b = some o → b ∉ frs X.stack → ∃ o', B.get? b = some o') (g3 : ∀ b u, H' b = some u → ∃ o, B.get? b = some o)
    {h' : Heap} (hfl' : Heap.FlyingW B X.outer e cls a0 h') (hu : s'.heap.UpToSlots h') : Fly X.prog X.w X.outer X.H₀ X.s₀ e cls H' { s' with heap := h' } := by
  have nex : ∀ b, b ∉ X.ex := fun b hb => by rw [hex] at hb; cases hb
  have up : ∀ {b : Addr}, b ∈ X.fs → b ∈ frs X.stack := fun hb => by rw [hs]; exact frs_cons hb
  have kS : ∀ b o, s'.heap.get? b = some o → b ∈ frs X.stack → ∃ sl, h'.get? b = some { o with slots := sl } := fun b o q hb => hu b o q (by
    obtain ⟨_, o', ho', hd⟩ := hfl.2.2.1.mem hb
    rw [q] at ho'; cases ho'; exact hd)
  refine ⟨F.os.trans I.os, F.bare, ⟨fun b o q n hb _ => ?_, fun b o q n hb _ => ?_, fun b o q n _ => ?_, fun b o q _ => ?_, fun b xs q => F.un.tups b xs (I.base.tups b xs q), fun b o u q => F.un.frzs b o u (I.base.frzs b o u q), fun b ps q => ?_⟩, ?_, B, a0, hfl', fun b o q n hb => ?_, fun b o q hb => ?_, g3⟩
  · exact hfl'.1 b o (g1 b o (I.base.keep b o q n hb (nex b)) (I.base.free b o q n (nex b)) (I.notOwn q hb))
  · obtain ⟨sl, e1⟩ := I.base.slot b o q n hb (nex b)
    obtain ⟨sl', e2⟩ := F.un.slot b _ e1 (I.base.free b o q n (nex b)) (up hb) (by simp)
    obtain ⟨sl'', e3⟩ := kS b _ e2 (up hb)
    exact ⟨sl'', e3⟩
  · obtain ⟨o', e1⟩ := I.base.there b o q (nex b)
    exact F.un.free b o' e1 (I.base.free b o q n (nex b)) (by simp)
  · obtain ⟨o', e1⟩ := I.base.there b o q (nex b)
    by_cases hm : b ∈ frs X.stack
    · obtain ⟨o2, e2⟩ := F.un.there b o' e1 (by simp)
      obtain ⟨sl, e3⟩ := kS b o2 e2 hm; exact ⟨_, e3⟩
    · obtain ⟨o2, e2⟩ := g2 b o' e1 hm
      exact ⟨o2, hfl'.1 b o2 e2⟩
  · obtain ⟨m1, e1⟩ := I.base.tbls b ps q
    obtain ⟨m2, e2⟩ := F.un.tbls b _ e1
    exact ⟨m1 ++ m2, by rw [e2, Array.append_assoc]⟩
  · refine F.hok.tracked fun b u o q z => ?_
    obtain ⟨o', e1⟩ := g3 b u q
    have := hfl.1 b o' e1
    rw [z] at this; cases this
    exact hfl'.1 b _ e1
  · exact g1 b o (I.base.keep b o q n hb (nex b)) (I.base.free b o q n (nex b)) (I.notOwn q hb)
  · obtain ⟨o', e1⟩ := I.base.there b o q (nex b)
    exact g2 b o' e1 (I.notOwn q hb)
theorem pass_out (I : Inv X pins σ H s) (hs : X.stack = X.env :: X.outer) (hf : X.env.frame = some X.env.locals) (hex : X.ex = []) (F : Fly X.prog X.w X.stack H s e cls H' s')
    (k : ∀ h', Fly X.prog X.w X.outer X.H₀ X.s₀ e cls H' { s' with heap := h' } → Q () { s' with heap := h' }) : wpAny (model X.prog X.w) X.A (leaving X.env (.ref e)) Q E' s' := by
  obtain ⟨B, a0, hfl, g1, g2, g3⟩ := F.fly
  have hfr := I.ok.frames
  have hfl1 := hfl
  rw [hs] at hfr hfl1
  exact wpAny_leaves_onW hfr hf hfl1 fun h' x1 x2 => k h' (Fly.over I hs hex F hfl g1 g2 g3 x1 x2)
end
theorem pass1 {P : Program} {w : World} {K : PySem.W.Frag} {mg : Str → Option Value} {base : Heap} {N : List Str} {qual : Str} {scope : Scope} {f : Addr} {cd : Value} {A : Around} {outer : List Env} {s : Shared} {H : Hp} {E : XK} :
    Passes (CX1 P w) (cxOf (CX1 P w) P w K mg base N qual scope f cd A outer s H E) E := by
  intro pins σ H1 s1 e s2 I h
  obtain ⟨a, cls, H', rfl, F, q⟩ := h
  exact pass_out (X := cxOf (CX1 P w) P w K mg base N qual scope f cd A outer s H E) I rfl rfl rfl F fun h' F' => ⟨a, cls, H', rfl, F', q⟩
noncomputable abbrev bmV : List Value := [.type "ValueError", .type "Exception", .type "BaseException", .type "object"]
structure ExcC (K : PySem.W.Frag) (C : Addr) : Prop where
  ex : PySem.W.excIn K C bmV "ValueError.__new__" = true
theorem ExcC.obj {K : PySem.W.Frag} {C : Addr} {h : Heap} (c : ExcC K C) (X : K.In h) : ∃ bm N nm q bs hdct sn sub ab col dd k0 k1 k2 k3 k5 mN,
    h.get? C = some (excClassObj nm q C N bs bm hdct sn sub ab col dd k0 k1 k2 k3 k5 "ValueError.__new__") ∧ h.Ns N mN ∧ mN "__init__" = none ∧ OwnTail h bmV bm := by
  have z := c.ex
  unfold PySem.W.excIn at z
  split at z
  · rename_i dct cdat slt look
    split at z
    · rename_i C2 tl a0 a1 a2 a3 nid a5 m1 m2
      simp only [Bool.and_eq_true, beq_iff_eq, Bool.not_eq_true'] at z
      obtain ⟨⟨⟨⟨⟨rfl, rfl⟩, noDel⟩, tail⟩, isN⟩, noInit⟩ := z
      obtain ⟨y1, y2, y3, y4, y5, y6, y7, y8, y9, y10, y11⟩ := cdat
      dsimp only at m1 noDel isN noInit
      subst m1 noDel
      obtain ⟨ls⟩ := slt
      replace m2 : ls = _ := m2
      subst m2
      refine ⟨tl, y4, y1, y5, y2, y6, y7, y8, y9, y10, dct, a0, a1, a2, a3, a5, _, X _ _ look, ?_, PySem.W.nsMap_none_of_in X isN noInit, PySem.W.tail_of_in X tail⟩
      exact .of_isNs (PySem.W.isNs_of_in X isN)
    · cases z
  · cases z
section
variable {X : Cx} {x : Str} {z : Str} {j : Nat} {np p1 cpos pos : Pos} {C : Addr} {E : XK}
theorem ps_raise (hxe : X.xe = fun e s' => wpAny (model X.prog X.w) X.A (leaving X.env e) (fun _ s'' => CX1 X.prog X.w X.outer X.H₀ X.s₀ E e s'') (fun e' s'' => CX1 X.prog X.w X.outer X.H₀ X.s₀ E e' s'') s')
    (hs : X.stack = X.env :: X.outer) (hf : X.env.frame = some X.env.locals) (hex : X.ex = []) (hc : X.calm = true) (hg : Gl X x) (hm : X.mg x = some (.ref C)) (c : ExcC X.K C) (hd : (x == ("__debug__" : Str)) = false := by decide) :
    PS X (.Raise (some (.Call (.Name x np) [.Constant (.str z) j p1] [] cpos)) none pos) (fun _ _ H => E (.ref C) none H) := by
  intro pins s σ H D I h
  obtain ⟨bm, N, nm, q, bs, hdct, sn, sub, ab, col, dd, k0, k1, k2, k3, k5, mN, hC, hN, hni, T⟩ := c.obj I.ok.mod.kin
  refine wpAny_Raise_call_subT (C := C) (nm := nm) (q := q) (N := N) (bs := bs) (bm := bm) (hdct := hdct) (sn := sn) (sub := sub) (ab := ab) (col := col) (dd := dd) (k0 := k0) (k1 := k1) (k2 := k2) (k3 := k3) (k5 := k5) PySem.F.excBase_ValueError (mN := mN)
    (T.hasType PySem.F.excBase_ValueError.hasBase) (I.ok.hd hc) rfl hni (ld_glob I hg hm ⟨rfl, ?_⟩ hd)
  have ha : PA X [.Constant (.str z) j p1] (tCons (tC (.str z)) tNil) := pa_c pe_str pa_nil
  refine Calls.evalArgs_plain (thn (ha cpos pins s σ H (fun vs H' => H' = H ∧ vs = [.str z]) I ⟨rfl, rfl⟩) fun us s2 hA => ?_)
  obtain ⟨vs, H2, I2, rv, e1, e2⟩ := hA
  subst e1 e2
  have hl := rv.length
  refine ⟨rfl, ?_, I2.bk _ _ hC, hN.keeps I2.bk, T.keeps I2.bk, fun h' e hx => ?_⟩
  · show us.length ≤ sizeLine
    rw [← hl]; show 1 ≤ sizeLine; decide
  · rw [hxe]
    exact raise_out I2 hs hf hex hx fun h2 F => ⟨e, .ref C, _, rfl, F, h⟩
end
noncomputable def Cx.within (X : Cx) (e : Addr) (oe : Obj) : Cx := { X with A := X.A.mark (some (.ref e)), calm := false, pn := (e, oe) :: X.pn, xe := fun _ _ => False }
noncomputable def Lands (X : Cx) (E : XK) : Value → Shared → Prop := fun v s' => ∃ pins σ H s e cls H', v = .ref e ∧ Inv X pins σ H s ∧ Fly X.prog X.w X.stack H s e cls H' s' ∧ E cls none H'
theorem pass_lands {X : Cx} {E : XK} : Passes (CX1 X.prog X.w) (X.wish (Lands X E)) E := by
  intro pins σ H s e s' I h
  obtain ⟨a, cls, H', rfl, F, q⟩ := h
  exact ⟨pins, σ, H, s, a, cls, H', rfl, I.unwish, F, q⟩
end L2
namespace L2
open PySem PySem.Spec PyProof.Rows
section
variable {X : Cx} {pins : List (Addr × Obj)} {σ : St} {H H' : Hp} {s s' : Shared} {cls a0 : Value} {e : Addr} {oe : Obj} {B h5 : Heap}
theorem Inv.landed (I : Inv X pins σ H s) (F : Fly X.prog X.w X.stack H s e cls H' s') (hfl : Heap.FlyingW B X.stack e cls a0 s'.heap)
    (g1 : ∀ b o, s.heap.get? b = some o → H b = none → b ∉ frs X.stack → B.get? b = some o) (g2 : ∀ b o, s.heap.get? b = some o → b ∉ frs X.stack → ∃ o', B.get? b = some o') (g3 : ∀ b u, H' b = some u → ∃ o, B.get? b = some o)
    (hB : B.StaysIn h5) (hu : s'.heap.UpToSlots h5) : Inv X pins σ H' { s' with heap := h5 } := by
  have kS : ∀ b o, s'.heap.get? b = some o → b ∈ frs X.stack → ∃ sl, h5.get? b = some { o with slots := sl } := fun b o q hb => hu b o q (by
    obtain ⟨_, o', ho', hd⟩ := hfl.2.2.1.mem hb
    rw [q] at ho'; cases ho'; exact hd)
  refine I.call' (s' := { s' with heap := h5 }) (ch := []) F.os ⟨fun b o q n hb _ => hB b o (g1 b o q n hb), fun b o q n hb _ => ?_, fun b o q n _ => F.un.free b o q n (by simp), fun b o q _ => ?_, F.un.tups, F.un.frzs, F.un.tbls⟩ (F.hok.tracked fun b u o q z => ?_) F.bare fun b z => nomatch z
  · obtain ⟨sl, e2⟩ := F.un.slot b o q n hb (by simp)
    obtain ⟨sl', e3⟩ := kS b _ e2 hb
    exact ⟨sl', e3⟩
  · by_cases hm : b ∈ frs X.stack
    · obtain ⟨o2, e2⟩ := F.un.there b o q (by simp)
      obtain ⟨sl, e3⟩ := kS b o2 e2 hm; exact ⟨_, e3⟩
    · obtain ⟨o2, e2⟩ := g2 b o q hm
      exact ⟨o2, hB b o2 e2⟩
  · obtain ⟨o', e1⟩ := g3 b u q
    have := hfl.1 b o' e1
    rw [z] at this; cases this
    exact hB b _ e1
theorem Inv.within (I : Inv X pins σ H s) (he : s.heap.get? e = some oe) (hn : H e = none) (hL : e ≠ X.env.locals) (hf : e ∉ X.fs) (hd : ∀ v, oe.data ≠ .cell v) : Inv (X.within e oe) pins σ H s :=
  ⟨⟨I.ok.mod, I.ok.kind, I.ok.glob, I.ok.blt, I.ok.above, I.ok.inj, I.ok.has, I.ok.cab, fun z => (Bool.false_ne_true z).elim, I.ok.frames, I.ok.stk, I.ok.exf, I.ok.bs, I.ok.bsz, I.ok.noex, I.ok.exfs, I.ok.funs, I.ok.frf⟩, I.os, I.bare, I.base, I.loc, I.cell, I.free, I.freeC,
    fun p hp => by
      rcases List.mem_append.mp hp with z | z
      · rcases List.mem_cons.mp z with y | y
        · subst y; exact ⟨he, hn, hL, hf, hd⟩
        · exact I.pin p (List.mem_append_left _ y)
      · exact I.pin p (List.mem_append_right _ z), I.hok, I.len⟩
theorem Inv.suiteOver (hc : X.A.handled = none) (I : Inv (X.within e oe) [] σ H s) (hpn : X.pn = []) {h' : Heap} {m : Str → Option Value} {t : Nat} (hN : h'.Ns X.env.locals m) (hs : Heap.SameBut X.env.locals s.heap h') : Inv X [] (List.replicate X.N.length none) H { s with heap := h', toks := t } := by
  have below : ∀ b o, X.s₀.heap.get? b = some o → b ≠ X.env.locals := fun b o q => Nat.ne_of_lt (Nat.lt_of_lt_of_le (Heap.lt_size q) I.ok.above)
  refine ⟨⟨I.ok.mod, I.ok.kind, I.ok.glob, I.ok.blt, I.ok.above, I.ok.inj, I.ok.has, I.ok.cab, fun _ => hc, I.ok.frames, I.ok.stk, I.ok.exf, I.ok.bs, I.ok.bsz, I.ok.noex, I.ok.exfs, I.ok.funs, I.ok.frf⟩, I.os, I.bare,
    ⟨fun b o q n hb hx => (hs.2 b (below b o q)).trans (I.base.keep b o q n hb hx), fun b o q n hb hx => let ⟨sl, e1⟩ := I.base.slot b o q n hb hx; ⟨sl, (hs.2 b (below b o q)).trans e1⟩, I.base.free, fun b o q hx => let ⟨o', e1⟩ := I.base.there b o q hx; ⟨o', (hs.2 b (below b o q)).trans e1⟩, I.base.tups, I.base.frzs, I.base.tbls⟩,
    ⟨m, hN, fun i x v _ e2 _ => ?_⟩, fun y c q => ?_, I.free, I.freeC, fun p hp => ?_, I.hok.tracked fun b u o q z => ?_, by simp⟩
  · rw [List.getElem?_replicate] at e2
    split at e2 <;> cases e2
  · obtain ⟨w', z⟩ := I.cell y c q
    exact ⟨w', z.sameBut hs (I.cne y c q)⟩
  · rw [hpn] at hp; cases hp
  · refine (hs.2 b fun y => ?_).trans z
    have := I.free
    rw [show (X.within e oe).env.locals = X.env.locals from rfl, ← y, q] at this; cases this
end
section
variable {X : Cx} {E : XK} {R : VK} {y n : Str} {i : Nat} {Cy : Addr} {b₀ : Stmt} {suite : List Stmt} {np hp : Pos} {tS : Addr → Obj → TS}
theorem catch_as (hs : X.stack = X.env :: X.outer) (hf : X.env.frame = some X.env.locals) (hpn : X.pn = []) (hcalm : X.calm = true) (hy : Gl X y) (hm : X.mg y = some (.ref Cy)) (hN : X.N.Nodup) (hi : X.N[i]? = some n) (hn : X.env.scope.names.lookup n = some .local)
    (hk : ∀ cls H', E cls none H' → PySem.W.exmOne X.K cls (.ref Cy) = some true) (hS : ∀ e oe, PSs (X.within e oe) (b₀ :: suite) (tS e oe))
    (q : ∀ e oe cls H', oe.cls = cls → E cls none H' → tS e oe { nx := fun _ _ => False, rt := R } ((List.replicate X.N.length none).set i (some (.ref e))) H') (hdb : (y == ("__debug__" : Str)) = false) {D : Ends} (hD : D.rt = R) {v : Value} {s' : Shared} (h : Lands X E v s') :
    wpAny (model X.prog X.w) X.A (noteFrame v X.env) (fun _ s₂ => wpAny (model X.prog X.w) X.A (setFlight v none) (fun _ s₃ => wpAny (model X.prog X.w) X.A (handleBy v X.env [.ExceptHandler (some (.Name y np)) (some n) (b₀ :: suite) hp]) (SP X [] D) X.xe s₃) X.xe s₂) X.xe s' := by
  obtain ⟨pins, σ, H, s, e, cls, H', rfl, I, F, qE⟩ := h
  obtain ⟨B, a0, hfl, g1, g2, g3⟩ := F.fly
  have hfr := I.ok.frames
  have hfl1 := hfl
  rw [hs] at hfr hfl1
  have heH : H' e = none := by
    cases z : H' e with
    | none => rfl
    | some u =>
      obtain ⟨o, e1⟩ := g3 e u z
      rw [hfl.2.1] at e1; cases e1
  -- the exception's object, in any heap in which it has landed
  have obj : ∀ {h : Heap}, Heap.FlyingW B (X.env :: X.outer) e cls a0 h → Inv X pins σ H' { s' with heap := h } → ∃ oe, oe.cls = cls ∧ h.get? e = some oe ∧ ∀ {pins' σ'}, Inv X pins' σ' H' { s' with heap := h } → Inv (X.within e oe) pins' σ' H' { s' with heap := h } := fun {h} fl J => by
    obtain ⟨oe, vs, ho, hc, hd, _⟩ := fl.first
    refine ⟨oe, hc, ho, fun J' => J'.within ho heH ?_ ?_ ?_⟩
    · intro z
      obtain ⟨m, ⟨o2, es, ep, ho2, hd2, _⟩, _⟩ := J'.loc
      rw [← z, ho] at ho2; cases ho2
      rw [hd] at hd2; cases hd2
    · intro z
      obtain ⟨_, o2, ho2, hd2⟩ := J'.funs.mem z
      rw [ho] at ho2; cases ho2
      exact hd2 _ hd
    · intro v z
      rw [hd] at z; cases z
  refine wpAny_looks_onW hfr hf hfl1 fun h₄ held₄ sm₄ => wpAny_landsW held₄ fun h₅ fl₅ sm₅ => ?_
  have I5 : Inv X pins σ H' { s' with heap := h₅ } := I.landed F hfl g1 g2 g3 fl₅.1 (sm₄.trans sm₅)
  obtain ⟨o5, c5, he5, w5⟩ := obj fl₅ I5
  have LT : PySem.W.Looks (model X.prog X.w) h₅ (typeOf (.ref e)) cls := c5 ▸ (PySem.W.Looks.ld he5).andThen .now
  refine wpAny_handleBy_cons (codeAny_handlers_test (ld_glob (X := X.within e o5) (w5 I5) hy hm ?_ hdb)) (by intro z; cases z)
  refine (PySem.W.exm_one (M := model X.prog X.w) I5.kIn LT (hk cls H' qE)).here ?_
  refine codeAny_handlers_suite_as (lands_againW fl₅ fun h₆ fl₆ sm₆ => ?_)
  have I6 : Inv X pins σ H' { s' with heap := h₆ } := I.landed F hfl g1 g2 g3 fl₆.1 ((sm₄.trans sm₅).trans sm₆)
  obtain ⟨o6, c6, he6, w6⟩ := obj fl₆ I6
  have I6' : Inv X [] (List.replicate X.N.length none) H' { s' with heap := h₆ } := (I6.pins_of (pins' := []) fun p z => nomatch z).weak (by rw [List.length_replicate]; exact I6.len.symm) fun j v z => by
    rw [List.getElem?_replicate] at z
    split at z <;> cases z
  refine store_ok (X := X.within e o6) (w6 I6') hN hi (.inl hn) (v := .ref e) rfl (fun s₇ I7 => ?_) (.inr hn)
  refine wpAny_mono (hS e o6 [] s₇ _ H' _ I7 (q e o6 cls H' c6 qE)) (fun f s₈ h8 => ?_) fun _ _ z => False.elim z
  have fin : ∀ {σ8 : St} {H8 : Hp}, Inv (X.within e o6) [] σ8 H8 s₈ → (∀ s9, Inv X [] (List.replicate X.N.length none) H8 s9 → SP X [] D f s9) → wpAny (model X.prog X.w) X.A (do bindName X.env n .none; unbindBehindTheSuite X.env n hp) (fun _ s₃ => SP X [] D f s₃) X.xe s₈ := fun {σ8 H8} I8 k => by
    obtain ⟨m, hm8, _⟩ := I8.loc
    exact wpAny_nameGoes hn hm8 (by rw [I.ok.kind]; rfl) fun h' m' hN' hs' => k _ (Inv.suiteOver (I.ok.hd hcalm) I8 hpn hN' hs')
  cases f with
  | next => obtain ⟨σ8, H8, I8, z⟩ := h8; exact False.elim z
  | brk => obtain ⟨σ8, H8, I8, z⟩ := h8; exact False.elim z
  | cont => obtain ⟨σ8, H8, I8, z⟩ := h8; exact False.elim z
  | ret u =>
    obtain ⟨v8, σ8, H8, I8, r8, z⟩ := h8
    exact fin I8 fun s9 I9 => ⟨v8, _, H8, I9, r8, by rw [hD]; exact z⟩
end
section
variable {P : Program} {w : World} {K : PySem.W.Frag} {mg : Str → Option Value} {base : Heap}
theorem Fun.okX {x qual : Str} {st : Stmt} {f : Addr} {fd : FuncData} {N ps : List Str} {k : Nat} {sp : Sp} (F : Fun K x qual st f fd) (S : FnScope N ps (defScope st)) (len : ∀ vs H Q E, sp vs H Q E → vs.length = ps.length)
    (hbody : ∀ (cdv : Value) (A : Around) (outer : List Env) (s : Shared) (H : Hp) (vs : List V) (Q : VK) (E : XK), Room k (A.deeper (envOfC qual (defScope st) s.heap.objs.size f cdv)) → sp vs H Q E →
      ∃ t, PSs (cxOf (CX1 P w) P w K mg base N qual (defScope st) f cdv A outer s H E) (defBody st) t ∧ t { nx := fun _ H' => Q .non H', rt := Q } (start N vs) H) : FnOk P w K mg base (CX1 P w) (k + 1) f fd ps sp := by
  obtain ⟨oc, od, kV, doc, pm, an, cdv, ct, osl, rfl, lk, hcd⟩ := F.ex
  exact fn_of lk hcd S len fun A outer s H vs Q E hr hsp => hbody cdv A outer s H vs Q E hr hsp
end
end L2
namespace L2
open PySem PySem.Spec PyProof.Rows
structure ExcD (K : PySem.W.Frag) (D : Addr) : Prop where
  ex : PySem.W.excIn K D bmV "ValueError.__new__" = true
  cl : PySem.W.findIn K (.ref D) "__class__" = some (some (.builtin "object.__class__"))
  ga : PySem.W.findIn K (.ref D) "__getattribute__" = some (some (.builtin "BaseException.__getattribute__"))
  gt : PySem.W.findIn K (.ref D) "__getattr__" = some none
  mo : PySem.W.mroIn K D (.type "object") = some true
  mb : PySem.W.mroIn K D (.type "BaseException") = some true
  gg : PySem.W.specialIn K (.builtin "object.__class__") "__get__" = some (some (.builtin "getset_descriptor.__get__"))
  tk : PySem.W.takesIn K (.builtin "object.__class__") = some true
end L2
namespace L2
open PySem PySem.W PySem.Calls PyProof.Rows Builtin Builtin.ObjectAttr Builtin.Getset_descriptor
section
variable {prog : Program} {w : World} {A : Around} {E : Value → Shared → Prop} {K : PySem.W.Frag} {x D : Addr}
theorem exc_find {M : Model} {h : Heap} (X : K.In h) (c : ExcD K D) : PySem.W.Looks M h (find (.ref x) (.ref D) "__class__") (.bind (.builtin "getset_descriptor.__get__") (.builtin "object.__class__")) := by
  refine (PySem.W.looks_findIn X c.cl).andThen ?_
  refine PySem.W.Looks.andThen (a := some (Value.builtin "getset_descriptor.__get__")) (PySem.W.looks_specialIn X c.gg) ?_
  refine PySem.W.Looks.andThen (a := some (Value.builtin "getset_descriptor.__get__", Value.builtin "object.__class__")) ?_ (PySem.W.Looks.tag .now)
  exact (PySem.W.looks_takesIn X c.tk).andThen .now
theorem exc_get {R : Result → Shared → Prop} {s : Shared} {tp : Value} (X : K.In s.heap) (L0 : PySem.W.Looks (model prog w) s.heap (typeOf (.ref x)) (.ref D)) (c : ExcD K D) (h : R (.ok (.ret (.ref D))) s) :
    codeAny (model prog w) A (.call (.builtin "getset_descriptor.__get__") ⟨[.builtin "object.__class__", .ref x, tp], []⟩) R s := by
  obtain ⟨hh, g, dr, t, os⟩ := s
  have LM := PySem.W.looks_mroIn (M := model prog w) X c.mo
  refine codeAny_call_builtin KF.slot_gs.plain KF.entry_gs (KF.slot_gs.check _ _ _ _ _ _ _ _ KF.type_class (KF.args_gs _ _ _) ?_); unfold Builtin.«getset_descriptor.__get__» descrGet; rw [dga_obj]
  refine wpAny_bind (wpAny_pure ?_); unfold descrGetter descrCheckInstance descrNameAndClass isInstance; simp only [KF.owner_class]; repeat lk
  refine ⟨Code.quiet_builtin _ (by decide +kernel), codeAny_builtin KF.entry_class ?_⟩; unfold Builtin.«object.__class__» shownTypeOf; repeat lk
  exact h
theorem exc_class {s : Shared} {Q : Option Value → Shared → Prop} (X : K.In s.heap) {o : Obj} (hx : s.heap.get? x = some o) (hc : o.cls = .ref D) (c : ExcD K D) (h : Q (some (.ref D)) { s with toks := s.toks + 1 }) :
    wpAny (model prog w) A (getAttr? (.ref x) "__class__") Q E s := by
  obtain ⟨hh, g, d, t, os⟩ := s
  have hx : hh.get? x = some o := hx
  have L0 : Looks (model prog w) hh (typeOf (.ref x)) (.ref D) := hc ▸ (Looks.ld hx).andThen .now
  have L1 := looks_findIn (M := model prog w) X c.ga
  have L2' := looks_findIn (M := model prog w) X c.gt
  have LB := looks_mroIn (M := model prog w) X c.mb
  have LF := exc_find (x := x) (M := model prog w) X c
  unfold getAttr? getAttrBy? getAttrBy
  refine wpAny_bind (wpAny_mkText (wpAny_bind (wpAny_attempt (wpAny_holding (wpAny_bind (L0.at (wpAny_bind (L1.at ?_))))))))
  have hne : (onTheHeap (Value.ref D) && Value.builtin "BaseException.__getattribute__" == Value.builtin "object.__getattribute__") = false := by
    rw [show (Value.builtin "BaseException.__getattribute__" == Value.builtin "object.__getattribute__") = false by decide +kernel]; rfl
  dsimp only
  rw [if_neg (by rw [hne]; decide)]
  unfold getAttrByItsOwn hookBefore
  rw [if_pos (show onTheHeap (Value.ref D) = true from rfl)]
  refine wpAny_bind (L2'.at (wpAny_bind (wpAny_attempt (wpAny_holding ?_))))
  unfold callGetattribute boundAndCalled
  rw [if_neg (by decide)]
  refine wpAny_bind (wpAny_of_eq (PySem.F.attr_ValueError.ga.bind (.ref x)) ?_)
  refine wpAny_call (codeAny_call_builtin PySem.F.attr_ValueError.ga.plain PySem.F.entry_bexc_ga ?_)
  have hk : builtinKind "BaseException.__getattribute__" = some .slot := by decide +kernel
  have hsp : splitId "BaseException.__getattribute__" = some ("BaseException", "__getattribute__") := by decide +kernel
  have ha := PySem.F.args_bexc_ga (.ref x) (.str "__class__" t)
  simp only [checkBuiltinCall, hk, hsp]
  have LI : Looks (model prog w) hh (isInstance (.ref x) (.type "BaseException")) true := L0.andThen LB
  refine wpAny_bind (LI.at ?_)
  repeat (first | assumption | wp_step)
  rw [hc]
  have LC := looks_findIn (M := model prog w) X c.cl
  have LG : Looks (model prog w) hh (getOf (some (Value.builtin "object.__class__"))) (some (Value.builtin "getset_descriptor.__get__")) := looks_specialIn X c.gg
  have LD : Looks (model prog w) hh (dataDescriptor? (some (Value.builtin "object.__class__")) (some (Value.builtin "getset_descriptor.__get__"))) (some (Value.builtin "getset_descriptor.__get__", Value.builtin "object.__class__")) := (looks_takesIn X c.tk).andThen .now
  refine LC.at (wpAny_bind (LG.at (wpAny_bind (LD.at (wpAny_bind (wpAny_rule (wpAny_pure ?_)))))))
  dsimp only
  unfold bindTo
  dsimp only
  refine wpAny_bind (wpAny_holding (wpAny_call (exc_get (s := ⟨hh, g, d, t + 1, os⟩) X L0 c (wpAny_pure ?_))))
  exact handed_on rfl (wpAny_pure h)
end
theorem kitx_exc {K : PySem.W.Frag} {x D : Addr} (c : ExcD K D) : PySem.W.KitX K (.ref x) (.ref D) (fun h => ∃ o, h.get? x = some o ∧ o.cls = .ref D) where
  ty := fun M h _ z => let ⟨o, h1, h2⟩ := z; h2 ▸ (PySem.W.Looks.ld h1).andThen .now
  it := fun M h X _ => by
    obtain ⟨bm, N, nm, q, bs, hdct, sn, sub, ab, col, dd, k0, k1, k2, k3, k5, mN, hC, _⟩ := ExcC.obj (C := D) ⟨c.ex⟩ X
    intro A' Q' E' s' k z
    unfold isType loadHead
    exact wpAny_bind (wpAny_loadPart (k _ _ hC) (wpAny_pure z))
  ne := fun h tp dd its n sl X htp => Bool.eq_false_iff.mpr fun q => by
    obtain ⟨bm, N, nm, q', bs, hdct, sn, sub, ab, col, dd, k0, k1, k2, k3, k5, mN, hC, _⟩ := ExcC.obj (C := D) ⟨c.ex⟩ X
    have e : D = tp := Value.ref.inj (beq_iff_eq.mp q)
    subst e
    have z : Value.type "type" = Value.type "tuple" := congrArg Obj.cls (Option.some.inj (hC.symm.trans htp))
    injection z with z
    exact absurd z (by decide)
  ca := fun X z k => let ⟨o, h1, h2⟩ := z; exc_class X h1 h2 c k
end L2
namespace L2
open PySem PySem.Spec PyProof.Rows
theorem call_isinstX {X : Cx} {e D : Addr} {oe : Obj} (c : ExcD X.K D) : CallR (X.within e oe) (.builtin "isinstance") (fun xs H Q => oe.cls = .ref D ∧ ((∃ C b, xs = [.ref e, .ref C] ∧ PySem.W.kitOne X.K (.ref D) (.ref C) = some b ∧ Q (.bl b) H) ∨ ∃ T b, xs = [.ref e, .ty T] ∧ PySem.W.kitOne X.K (.ref D) (.type T) = some b ∧ Q (.bl b) H)) := by
  intro pins s σ H xs us Q I r h
  obtain ⟨hc, h⟩ := h
  have hp : s.heap.get? e = some oe := (I.pin (e, oe) (List.mem_append_left _ List.mem_cons_self)).1
  rcases h with ⟨C, b, rfl, k, q⟩ | ⟨T, b, rfl, k, q⟩
  · obtain ⟨u, w', rfl, rx, ry⟩ := vals2 r
    cases rx
    cases ry
    exact PySem.W.kia_one (kitx_exc c) I.kIn ⟨oe, hp, hc⟩ k (fun z => nomatch z) fun tk => ⟨.bl b, H, I.tok _, rfl, q⟩
  · obtain ⟨u, w', rfl, rx, ry⟩ := vals2 r
    cases rx
    cases (show w' = Value.type T from ry)
    exact PySem.W.kia_one (kitx_exc c) I.kIn ⟨oe, hp, hc⟩ k (fun z => nomatch z) fun tk => ⟨.bl b, H, I.tok _, rfl, q⟩
theorem call_isinstTs {X : Cx} : CallR X (.builtin "isinstance") (fun xs H Q => ∃ x t ty b, ∃ Ts : List String, xs = [x, .ref t] ∧ H t = some (.tup (Ts.map V.ty)) ∧ TyOf X.K H x ty ∧ (∃ T, ty = .type T) ∧ PySem.W.kitAny X.K ty (Ts.map Value.type) = some b ∧ Q (.bl b) H) := by
  intro pins s σ H xs us Q I r h
  obtain ⟨x, t, ty, b, Ts, rfl, ht, hty, ⟨T, rfl⟩, k, q⟩ := h
  obtain ⟨u, w', rfl, rx, ry⟩ := vals2 r
  cases ry
  obtain ⟨its, rv, ⟨⟨c1, d1, t1, l1⟩, ho, hc, n, hd⟩, _⟩ := I.tuple (SqT.of ht)
  simp only at hc hd
  subst hc hd
  have e : its = Ts.map Value.type := by
    have go : ∀ (Ts : List String) (us : List Value), Vals (Ts.map V.ty) us → us = Ts.map Value.type := by
      intro Ts
      induction Ts with
      | nil => intro us h; cases h; rfl
      | cons T Ts ih => intro us h; cases h with | cons a b => rw [show _ = Value.type T from a, ih _ b]; rfl
    exact go Ts its rv
  subst e
  have fin : ∀ tk, EP X pins σ Q (.bool b) { s with toks := tk } := fun tk => ⟨.bl b, H, I.tok _, rfl, q⟩
  cases hty with
  | non => cases (show u = Value.none from rx); exact PySem.W.kia_tup PySem.W.kitx_none I.kIn True.intro ho k (fun z => nomatch z) fin
  | bl y => cases (show u = Value.bool y from rx); exact PySem.W.kia_tup PySem.W.kitx_bool I.kIn True.intro ho k (fun z => nomatch z) fin
  | int i => obtain ⟨t, z⟩ := (show ∃ t, u = Value.int i t from rx); cases z; exact PySem.W.kia_tup PySem.W.kitx_int I.kIn True.intro ho k (fun z => nomatch z) fin
  | str y => obtain ⟨t, z⟩ := (show ∃ t, u = Value.str y t from rx); cases z; exact PySem.W.kia_tup PySem.W.kitx_str I.kIn True.intro ho k (fun z => nomatch z) fin
  | flt y => obtain ⟨t, z⟩ := (show ∃ t, u = Value.float y t from rx); cases z; exact PySem.W.kia_tup PySem.W.kitx_float I.kIn True.intro ho k (fun z => nomatch z) fin
  | @lst a xs ea =>
    cases (show u = Value.ref a from rx)
    obtain ⟨_, _, n, _, h1⟩ := (show ObjOk X.prog X.w H s.heap a (.lst xs) from I.hok a _ ea)
    exact PySem.W.kia_tup PySem.W.kitx_list I.kIn ⟨_, h1, rfl⟩ ho k (fun z => nomatch z) fin
  | @frz a ob xs ea =>
    cases (show u = Value.ref a from rx)
    obtain ⟨_, _, _, n, _, h1⟩ := (show ObjOk X.prog X.w H s.heap a (.frz ob (.lst xs)) from I.hok a _ ea)
    exact PySem.W.kia_tup PySem.W.kitx_list I.kIn ⟨_, h1, rfl⟩ ho k (fun z => nomatch z) fin
  | @tup a xs ea =>
    cases (show u = Value.ref a from rx)
    obtain ⟨_, _, _, p⟩ := (show ObjOk X.prog X.w H s.heap a (.tup xs) from I.hok a _ ea)
    obtain ⟨o, h1, h2, _⟩ := p
    exact PySem.W.kia_tup PySem.W.kitx_tuple I.kIn ⟨o, h1, h2⟩ ho k (fun z => nomatch z) fin
  | @dK a kvs ea =>
    cases (show u = Value.ref a from rx)
    obtain ⟨_, _, vs, _, p⟩ := (show ObjOk X.prog X.w H s.heap a (.dK kvs) from I.hok a _ ea)
    obtain ⟨o, es, ep, h1, h2, _⟩ := p
    exact PySem.W.kia_tup PySem.W.kitx_dict I.kIn ⟨o, h1, h2.1⟩ ho k (fun z => nomatch z) fin
  | @dT a kvs ea =>
    cases (show u = Value.ref a from rx)
    obtain ⟨_, _, xs, _, o, es, ep, h1, h2, _⟩ := (show ObjOk X.prog X.w H s.heap a (.dT kvs) from I.hok a _ ea)
    exact PySem.W.kia_tup PySem.W.kitx_dict I.kIn ⟨o, h1, h2.1⟩ ho k (fun z => nomatch z) fin
theorem PI.or {X : Cx} {tg iter : Expr} {w1 w2 : TI} (h1 : PI X tg iter w1) (h2 : PI X tg iter w2) : PI X tg iter (fun σ H R => w1 σ H R ∨ w2 σ H R) := by
  intro pins s σ H R I h
  rcases h with h | h
  · exact h1 pins s σ H R I h
  · exact h2 pins s σ H R I h
end L2
namespace L2
open PySem PySem.Spec PyProof.Rows
noncomputable abbrev C3 := Int × Int × Int
noncomputable def ClP (H : Hp) (bs : List Addr) (cl : List C3) : Prop := Paired (fun b (c : C3) => H b = some (.tup [.int c.1, .int c.2.1, .int c.2.2])) bs cl
theorem ClP.ext {H H' : Hp} {bs : List Addr} {cl : List C3} (h : ClP H bs cl) (e : Ext H H') : ClP H' bs cl := Paired.mapP h fun _ _ z => e.tup _ _ z
theorem ClP.get {H : Hp} : ∀ {bs : List Addr} {cl : List C3} {i : Nat} {b : Addr}, ClP H bs cl → bs[i]? = some b → ∃ c, cl[i]? = some c ∧ H b = some (.tup [.int c.1, .int c.2.1, .int c.2.2])
  | _, _, 0, _, .cons r _, h => by cases h; exact ⟨_, rfl, r⟩
  | _, _, i + 1, _, .cons _ t, h => ClP.get (i := i) t (by simpa using h)
noncomputable def ClT (H : Hp) (a : Addr) (cl : List C3) : Prop := ∃ bs, H a = some (.tup (bs.map V.ref)) ∧ ClP H bs cl
noncomputable def lt2 (a b : Int × Int) : Bool := HT.lexLt [a.1, a.2] [b.1, b.2]
noncomputable def key2 (c : C3) : Int × Int := (c.1, c.2.1)
structure ClOk (cl : List C3) : Prop where
  l1 : 1 ≤ cl.length
  l12 : cl.length ≤ 12
  num : ∀ c ∈ cl, (0 ≤ c.1 ∧ c.1 ≤ 3) ∧ (0 ≤ c.2.1 ∧ c.2.1 ≤ 5) ∧ 1 ≤ c.2.2 ∧ c.2.2 ≤ 20
  up : (cl.map key2).Pairwise fun a b => lt2 a b = true
noncomputable def Wk (J : It) (xs : List V) (S : Hp → Prop) : Prop := ∀ {g : TG} {tb : TS} {D : Ends} {σ : St} {H : Hp} (Pv : Nat → St → Hp → Prop), Pv 0 σ H → (∀ i σ H, i ≤ xs.length → Pv i σ H → S H) →
  (∀ i x σ H, xs[i]? = some x → Pv i σ H → g x σ H fun σ2 H2 => tb { D with nx := Pv (i + 1), ct := Pv (i + 1), bk := D.nx } σ2 H2) → (∀ σ H, Pv xs.length σ H → D.nx σ H) → tForJ J g tb D σ H
theorem wk_tup {K : PySem.W.Frag} {a : Addr} {xs : List V} : Wk (Itt K a) xs fun H => SqT K H a xs := fun Pv h0 hl hs hd => for_tup Pv h0 hl hs hd
theorem comp_key {K : PySem.W.Frag} {J : It} {S : Hp → Prop} {l : Addr} {bs : List Addr} {cl : List C3} {H0 : Hp} {Q : St → Hp → Prop} (W : Wk J (bs.map V.ref) S) (hS : ∀ H', Same H0 H' → S H') (hC : ClP H0 bs cl) (hl : H0 l = none) (hz : bs.length ≤ 1000)
    (hQ : ∀ σ H' ps, Same H0 H' → H' l = some (.lst (ps.map V.ref)) → PlAt H' ps (cl.map key2) → Q σ H') :
    tForJ J (gTup K 3 (gCons (gName 0) (gCons (gName 1) (gCons (gName 2) gNil)))) (tBodyC tAll (tEmit l (tTup (tCons (tVar 0) (tCons (tVar 1) tNil))))) (eC Q) [none, none, none] (upd H0 l (.lst [])) := by
  have hlen : bs.length = cl.length := Paired.length hC
  refine W (fun i σ H' => σ.length = 3 ∧ Same H0 H' ∧ ∃ ps : List Addr, H' l = some (.lst (ps.map V.ref)) ∧ PlAt H' ps ((cl.take i).map key2)) ⟨rfl, same_upd hl, [], by rw [upd_same]; rfl, .nil⟩ (fun i σ H' _ h => hS _ h.2.1) ?_ ?_
  · rintro i x σ H' hx ⟨hσ, hs, ps, hl', hP⟩
    match σ, hσ with
    | [x0, y0, z0], _ =>
    rw [List.getElem?_map] at hx
    cases hb : bs[i]? with
    | none => rw [hb] at hx; cases hx
    | some b =>
      rw [hb] at hx; cases hx
      obtain ⟨c, hc, he⟩ := hC.get hb
      have hpl : ps.length ≤ i := by have := Paired.length hP; rw [List.length_map, List.length_take] at this; omega
      have hil : i < bs.length := (List.getElem?_eq_some_iff.mp hb).1
      refine ⟨b, _, rfl, SqT.of (hs _ _ he), rfl, _, _, rfl, _, _, rfl, _, _, rfl, rfl, ?_⟩
      refine body_all ?_
      refine ⟨_, rfl, _, rfl, by show 2 ≤ sizeLine; decide, fun q hq => ?_⟩
      have s2 := same_upd (o := .tup [.int c.1, .int c.2.1]) hq
      have hlq : q ≠ l := fun z => by rw [z, hl'] at hq; cases hq
      refine ⟨_, s2 _ _ hl', small1000 (by rw [List.length_map]; omega), rfl, fun b u e => ?_, ps ++ [q], ?_, ?_⟩
      · rw [upd_ne (ne_of_none e hl)]; exact s2 _ _ (hs _ _ e)
      · rw [upd_same, List.map_append]; rfl
      · rw [List.take_succ, hc, List.map_append]
        refine PlAt.snoc (Paired.mapP hP fun p c' e => ?_) (by rw [upd_ne hlq, upd_same]; rfl)
        have e' := s2 _ _ e
        rw [upd_ne (fun z => by rw [z, s2 _ _ hl'] at e'; cases e')]; exact e'
  · rintro σ H' ⟨_, hs, ps, hl', hP⟩
    rw [List.length_map, hlen, List.take_of_length_le (Nat.le_refl _)] at hP
    exact hQ σ H' ps hs hl' hP
end L2
namespace M54
open PySem L2 PyProof.Rows
noncomputable def top (i : Nat) : Stmt := PySem.Challenge.pw_meadshares_k54_texts.main.body.getD i (.Pass ⟨0, 0, 0, 0⟩)
noncomputable abbrev sNumber : Stmt := top 7
noncomputable abbrev sWithin : Stmt := top 8
noncomputable abbrev sTuple : Stmt := top 9
noncomputable abbrev sRising : Stmt := top 10
noncomputable abbrev sClaim : Stmt := top 16
noncomputable abbrev sClaims : Stmt := top 17
noncomputable abbrev sRow : Stmt := top 25
noncomputable abbrev sMead : Stmt := top 26
noncomputable abbrev sPlaces : Stmt := top 28
noncomputable abbrev sWritten : Stmt := top 32
noncomputable abbrev sReadNum : Stmt := top 33
noncomputable abbrev sRowsRead : Stmt := top 34
noncomputable abbrev sReadMead : Stmt := top 38
noncomputable abbrev sReadClaims : Stmt := top 39
noncomputable abbrev sCell : Stmt := top 41
noncomputable abbrev sPen : Stmt := top 42
noncomputable abbrev sDraw : Stmt := top 43
noncomputable abbrev sSame : Stmt := top 44
noncomputable abbrev sMeadL : Stmt := top 45
noncomputable abbrev sClaimsL : Stmt := top 46
noncomputable abbrev sListed : Stmt := top 47
noncomputable abbrev sMeadText : Stmt := top 48
noncomputable abbrev sClaimsText : Stmt := top 49
noncomputable abbrev sTold : Stmt := top 50
noncomputable abbrev sLaw : Stmt := top 51
noncomputable abbrev sChkClaims : Stmt := top 18
noncomputable abbrev sChkMead : Stmt := top 27
noncomputable abbrev sShNums : Stmt := top 35
noncomputable abbrev sShMead : Stmt := top 36
noncomputable abbrev sShClaims : Stmt := top 37
structure Txt (mg : Str → Option Value) : Prop where
 isinstance : mg "isinstance" = none
 int : mg "int" = none
 bool : mg "bool" = none
 tuple : mg "tuple" = none
 len : mg "len" = none
 all : mg "all" = none
 zip : mg "zip" = none
 range : mg "range" = none
 list : mg "list" = none
 sorted : mg "sorted" = none
 str : mg "str" = none
 enumerate : mg "enumerate" = none
 sorts : ∃ t, mg "MOST_SORTS" = some (.int 6 t)
 holders : ∃ t, mg "MOST_HOLDERS" = some (.int 4 t)
 rights : ∃ t, mg "MOST_RIGHTS" = some (.int 20 t)
 claims : ∃ t, mg "MOST_CLAIMS" = some (.int 12 t)
 rows : ∃ t, mg "MOST_ROWS" = some (.int 4 t)
 cols : ∃ t, mg "MOST_COLUMNS" = some (.int 6 t)
 cells : ∃ t, mg "MOST_CELLS" = some (.int 10 t)
 worth : ∃ t, mg "MOST_WORTH" = some (.int 99 t)
 water : ∃ t, mg "WATER" = some (.int (-2) t)
 figures : ∃ t, mg "FIGURES" = some (.str "0123456789" t)
 mostFig : ∃ t, mg "MOST_FIGURES" = some (.int 5 t)
structure At (P : Program) (w : World) (K : PySem.W.Frag) (mg : Str → Option Value) (base : Heap) (k : Nat) (x : Str) (f : Addr) (fd : FuncData) (ps : List Str) (sp : Sp) : Prop where
 nm : mg x = some (.ref f)
 kp : PySem.W.keepIn K (.ref f) = true
 bd : L2.Binds K fd ps []
 ok : FnOk P w K mg base CX0 k f fd ps sp
noncomputable def spNumber : Sp := fun vs H Q _ => ∃ v, vs = [v] ∧ Kn H 1 v ∧ Q (.bl (isInt v)) H
noncomputable def spWithin : Sp := fun vs H Q _ => ∃ v lo hi, vs = [v, .int lo, .int hi] ∧ Kn H 1 v ∧ Q (.bl (numIn lo hi v)) H
noncomputable def tupIn (H : Hp) (lo hi : Int) (v : V) : Bool := match tupOf H v with | some xs => decide (lo ≤ xs.length) && decide ((xs.length : Int) ≤ hi) | none => false
noncomputable def spTuple : Sp := fun vs H Q _ => ∃ v lo hi, vs = [v, .int lo, .int hi] ∧ Kn H 1 v ∧ Q (.bl (tupIn H lo hi v)) H
noncomputable def spRow : Sp := fun vs H Q _ => ∃ v, vs = [v] ∧ Kn H 2 v ∧ ∀ H', Same H H' → Q (.bl (rowOk H v)) H'
noncomputable def spMead : Sp := fun vs H Q _ => ∃ v, vs = [v] ∧ Kn H 3 v ∧ ∀ H', Same H H' → Q (.bl (goodM H v)) H'
section
variable {P : Program} {w : World} {K : PySem.W.Frag} {mg : Str → Option Value} {base : Heap}
theorem scNumber : FnScope ["thing"] ["thing"] (defScope sNumber) := ⟨rfl, rfl, rfl, by decide +kernel, rfl, by decide +kernel, by decide +kernel⟩
theorem ok_number {f : Addr} {fd : FuncData} (F : Fun K "is_number" "is_number" sNumber f fd) (T : Txt mg) : FnOk P w K mg base CX0 1 f fd ["thing"] spNumber := by
 refine F.ok scNumber (fun vs H Q E h => ?_) (fun cdv A outer s H vs Q E hr h => ?_)
 ·obtain ⟨v, rfl, _⟩ := h; rfl
 ·obtain ⟨v, rfl, k, q⟩ := h
  refine ⟨_, pss_one (ps_ret (pe_and (pe_callB call_isinst rfl T.isinstance boot_isinstance (pa_cons (pv 0) (pa_cons (pe_bltn (v := .ty "int") rfl T.int boot_int rfl) pa_nil)))
   (pe_one (pe_not (pe_callB call_isinst rfl T.isinstance boot_isinstance (pa_cons (pv 0) (pa_cons (pe_bltn (v := .ty "bool") rfl T.bool boot_bool rfl) pa_nil))))))), ?_⟩
  obtain ⟨t, ty, k1, k2, _⟩ := ty_of (K := K) k
  refine ⟨_, rfl, _, "int", t, _, rfl, ty, k1, _, rfl, iteB (fun e => ?_) fun e => ?_⟩
  ·refine ⟨_, rfl, _, "bool", t, _, rfl, ty, k2, _, rfl, ?_⟩
   have : (!isBl v) = isInt v := by cases v <;> first | rfl | cases e
   rw [this]; exact q
  ·have : isInt v = false := (Bool.or_eq_false_iff.mp e).1
   rw [this] at q; exact q
theorem scWithin : FnScope ["thing", "least", "most"] ["thing", "least", "most"] (defScope sWithin) := ⟨rfl, rfl, rfl, by decide +kernel, rfl, by decide +kernel, by decide +kernel⟩
theorem ok_within {f g : Addr} {fd gd : FuncData} (F : Fun K "is_number_within" "is_number_within" sWithin f fd) (T : Txt mg) (G : Fun K "is_number" "is_number" sNumber g gd) (b : Binds K gd ["thing"] []) (m : mg "is_number" = some (.ref g)) : FnOk P w K mg base CX0 2 f fd ["thing", "least", "most"] spWithin := by
 have GN : FnOk P w K mg base CX0 1 g gd ["thing"] spNumber := ok_number G T
 refine F.ok scWithin (fun vs H Q E h => ?_) (fun cdv A outer s H vs Q E hr h => ?_)
 ·obtain ⟨v, lo, hi, rfl, _⟩ := h; rfl
 ·obtain ⟨v, lo, hi, rfl, k, q⟩ := h
  refine ⟨_, pss_one (ps_ret (pe_and (pe_call GN hr rfl m G.kp b .nil pass0 (pa_cons (pv 0) pa_nil)) (pe_one (pe_chain op_le op_le (pv 1) (pv 0) (pv 2))))), ?_⟩
  refine ⟨_, rfl, v, rfl, k, _, rfl, iteB (fun e => ?_) fun e => ?_⟩
  ·cases v with
   | int i =>
    refine ⟨_, rfl, _, rfl, _, _, rfl, rfl, _, rfl, ite2d (fun h1 => ?_) fun h1 => ?_⟩
    ·refine ⟨_, rfl, _, _, rfl, rfl, ?_⟩
     have : numIn lo hi (.int i) = decide (i ≤ hi) := by simp [numIn, h1]
     rw [this] at q; exact q
    ·have : numIn lo hi (.int i) = false := by simp [numIn, h1]
     rw [this] at q; exact q
   | _ => cases e
  ·have : numIn lo hi v = false := by cases v <;> first | rfl | cases e
   rw [this] at q; exact q
theorem scTuple : FnScope ["thing", "least", "most"] ["thing", "least", "most"] (defScope sTuple) := ⟨rfl, rfl, rfl, by decide +kernel, rfl, by decide +kernel, by decide +kernel⟩
theorem ok_tuple {f : Addr} {fd : FuncData} (F : Fun K "is_tuple_within" "is_tuple_within" sTuple f fd) (T : Txt mg) : FnOk P w K mg base CX0 1 f fd ["thing", "least", "most"] spTuple := by
 refine F.ok scTuple (fun vs H Q E h => ?_) (fun cdv A outer s H vs Q E hr h => ?_)
 ·obtain ⟨v, lo, hi, rfl, _⟩ := h; rfl
 ·obtain ⟨v, lo, hi, rfl, k, q⟩ := h
  refine ⟨_, pss_one (ps_ret (pe_and (pe_callB call_isinst rfl T.isinstance boot_isinstance (pa_cons (pv 0) (pa_cons (pe_bltn (v := .ty "tuple") rfl T.tuple boot_tuple rfl) pa_nil)))
   (pe_one (pe_chain op_le op_le (pv 1) (pe_callB call_len_seq rfl T.len PySem.boot_len (pa_cons (pv 0) pa_nil)) (pv 2))))), ?_⟩
  obtain ⟨t, ty, _, _, k3⟩ := ty_of (K := K) k
  refine ⟨_, rfl, _, "tuple", t, _, rfl, ty, k3, _, rfl, iteB (fun e => ?_) fun e => ?_⟩
  ·obtain ⟨xs, ex⟩ := Option.isSome_iff_exists.mp e
   obtain ⟨a, rfl, ha⟩ := of_tupOf ex
   refine ⟨_, rfl, _, rfl, a, xs, rfl, .inr (SqT.of ha), _, _, rfl, rfl, _, rfl, ite2d (fun h1 => ?_) fun h1 => ?_⟩
   ·refine ⟨_, rfl, _, _, rfl, rfl, ?_⟩
    have : tupIn H lo hi (.ref a) = decide ((xs.length : Int) ≤ hi) := by simp [tupIn, ex, h1]
    rw [this] at q; exact q
   ·have : tupIn H lo hi (.ref a) = false := by simp [tupIn, ex, h1]
    rw [this] at q; exact q
  ·have : tupIn H lo hi v = false := by
    unfold tupIn
    cases z : tupOf H v with
    | none => rfl
    | some xs => rw [z] at e; cases e
   rw [this] at q; exact q
theorem scRow : FnScope ["thing"] ["thing"] (defScope sRow) := ⟨rfl, rfl, rfl, by decide +kernel, rfl, by decide +kernel, by decide +kernel⟩
theorem ok_row {f g1 g2 : Addr} {fd gd1 gd2 : FuncData} (F : Fun K "is_row" "is_row" sRow f fd) (T : Txt mg) (b1 : Binds K gd1 ["thing", "least", "most"] []) (m1 : mg "is_tuple_within" = some (.ref g1)) (p1 : PySem.W.keepIn K (.ref g1) = true) (G1 : FnOk P w K mg base CX0 1 g1 gd1 ["thing", "least", "most"] spTuple)
  (b2 : Binds K gd2 ["thing", "least", "most"] []) (m2 : mg "is_number_within" = some (.ref g2)) (p2 : PySem.W.keepIn K (.ref g2) = true) (G2 : FnOk P w K mg base CX0 2 g2 gd2 ["thing", "least", "most"] spWithin) : FnOk P w K mg base CX0 3 f fd ["thing"] spRow := by
 obtain ⟨t1, mCol⟩ := T.cols
 obtain ⟨t2, mWa⟩ := T.water
 obtain ⟨t3, mWo⟩ := T.worth
 refine F.ok scRow (fun vs H Q E h => ?_) (fun cdv A outer s H vs Q E hr h => ?_)
 ·obtain ⟨v, rfl, _⟩ := h; rfl
 ·obtain ⟨v, rfl, k, q⟩ := h
  refine ⟨_, pss_cons (ps_if (pt_not (pt_val (pe_call G1 (hr.mono (by decide)) rfl m1 p1 b1 .nil pass0 (pa_cons (pv 0) (pa_cons pe_int (pa_cons (pe_glob (v := .int 6) rfl mCol ⟨_, rfl⟩) pa_nil)))))) (pss_one (ps_ret pe_bl)) pss_nil)
   (pss_one (ps_ret (pe_callB (call_all rfl) rfl T.all boot_all (pa_cons (pe_comp1 (defScope sRow).names ["thing"] ["mark"] [] rfl (pi_tup (pv 0)) rfl rfl rfl (by decide +kernel)
    (fun Z => pg_name (i := 0) (show (["mark"] : List Str).Nodup by decide +kernel) rfl (Or.inl rfl)) (fun Z => pts_nil)
    (fun Z => pe_call G2 hr rfl m2 p2 b2 .nil pass0 (pa_cons (pv 0) (pa_cons (pe_glob (v := .int (-2)) rfl mWa ⟨_, rfl⟩) (pa_cons (pe_glob (v := .int 99) rfl mWo ⟨_, rfl⟩) pa_nil))))) pa_nil)))), ?_⟩
  refine ⟨_, rfl, v, 1, 6, rfl, k.le (by decide), _, rfl, iteB (fun e => ?_) fun e => ?_⟩
  ·have : rowOk H v = false := by
    rw [Bool.not_eq_true'] at e
    unfold tupIn at e; unfold rowOk
    cases z : tupOf H v with
    | none => rfl
    | some xs =>
     rw [z] at e
     dsimp only at e ⊢
     rw [Bool.and_eq_false_iff] at e ⊢
     left
     rw [Bool.and_eq_false_iff]
     rcases e with e | e
     ·left; rw [decide_eq_false_iff_not] at e ⊢; omega
     ·right; rw [decide_eq_false_iff_not] at e ⊢; omega
   have q' := q H (Same.refl H)
   rw [this] at q'; exact q'
  ·have e' : tupIn H 1 6 v = true := by simpa using e
   unfold tupIn at e'
   cases z : tupOf H v with
   | none => rw [z] at e'; cases e'
   | some xs =>
    rw [z] at e'
    obtain ⟨a, rfl, ha⟩ := of_tupOf z
    obtain ⟨hz, hk⟩ := k.items ha
    refine ⟨_, rfl, a, rfl, ⟨xs, SqT.of ha⟩, fun Z l hl => ?_⟩
    refine comp_map (fun x => .bl (numIn (-2) 99 x)) ha hl hz (fun x H' Q' hm hs hq => ?_) fun σ H' hs hl' => ?_
    ·exact ⟨_, rfl, x, -2, 99, rfl, (hk x hm).ext hs.ext, hq _ (Same.refl _)⟩
    ·refine ⟨l, xs.map (numIn (-2) 99), rfl, SqL.of (by rw [hl', List.map_map]; rfl), ?_⟩
     have : rowOk H (.ref a) = (xs.map (numIn (-2) 99)).all id := by
      unfold rowOk; rw [z]
      dsimp only at e' ⊢
      rw [Bool.and_eq_true, decide_eq_true_eq, decide_eq_true_eq] at e'
      rw [decide_eq_true (show 1 ≤ xs.length by omega), decide_eq_true (show xs.length ≤ 6 by omega), List.all_map]
      rfl
     have q' := q H' hs
     rw [this] at q'; exact q'
end
end M54
namespace M54
open PySem L2 PyProof.Rows
noncomputable def spPlaces : Sp := fun vs H Q _ => ∃ a rows, vs = [.ref a] ∧ H a = some (.tup rows) ∧ RowsAt H rows ∧ ∀ H' l ps, Same H H' → H' l = some (.lst (ps.map V.ref)) → PlAt H' ps (allCells H rows) → Q (.ref l) H'
section
variable {P : Program} {w : World} {K : PySem.W.Frag} {mg : Str → Option Value} {base : Heap}
theorem scPlaces : FnScope ["mead"] ["mead"] (defScope sPlaces) := ⟨rfl, rfl, rfl, by decide +kernel, rfl, by decide +kernel, by decide +kernel⟩
theorem nd4 : (["at", "row", "k", "mark"] : List Str).Nodup := by decide +kernel
theorem ok_places {f : Addr} {fd : FuncData} (F : Fun K "places_of_cells" "places_of_cells" sPlaces f fd) (T : Txt mg) : FnOk P w K mg base CX0 1 f fd ["mead"] spPlaces := by
 refine F.ok scPlaces (fun vs H Q E h => ?_) (fun cdv A outer s H vs Q E hr h => ?_)
 ·obtain ⟨a, rows, rfl, _⟩ := h; rfl
 ·obtain ⟨a, rows, rfl, ha, hR, q⟩ := h
  refine ⟨_, pss_one (ps_ret (pe_comp2 (defScope sPlaces).names ["mead"] ["at", "row", "k", "mark"] [] rfl (pi_enumT rfl rfl T.enumerate (pa_cons (pv 0) pa_nil)) rfl rfl rfl (by decide +kernel)
   (fun Z => pg_tup rfl (pgs_cons (pg_name (i := 0) nd4 rfl (Or.inl rfl)) (pgs_cons (pg_name (i := 1) nd4 rfl (Or.inl rfl)) pgs_nil))) (fun Z => pts_nil)
   (fun Z => pi_enumT rfl rfl T.enumerate (pa_cons (pv 1) pa_nil)) (fun Z => pg_tup rfl (pgs_cons (pg_name (i := 2) nd4 rfl (Or.inl rfl)) (pgs_cons (pg_name (i := 3) nd4 rfl (Or.inl rfl)) pgs_nil)))
   (fun Z => pts_one (pt_cmpR op_ge (pv 3) pe_int (nomark _))) (fun Z => pe_tup (pa_cons (pv 0) (pa_cons (pv 2) pa_nil))))), ?_⟩
  refine ⟨_, rfl, a, rows, rfl, SqT.of ha, fun Z l hl => ?_⟩
  exact comp_cells ha hl hR (fun at' k r i H' Q' hq => ⟨_, rfl, _, _, rfl, rfl, _, rfl, hq⟩) fun σ H' ps hs hl' hP => q H' l ps hs hl' hP
theorem scMead : FnScope ["thing"] ["thing"] (defScope sMead) := ⟨rfl, rfl, rfl, by decide +kernel, rfl, by decide +kernel, by decide +kernel⟩
theorem rowOk_num {H : Hp} {v : V} (h : rowOk H v = true) : ∃ b xs, v = .ref b ∧ H b = some (.tup xs) ∧ xs.length ≤ 6 ∧ ∀ x ∈ xs, ∃ i, x = .int i := by
 unfold rowOk at h
 cases e : tupOf H v with
 | none => rw [e] at h; cases h
 | some xs =>
  rw [e] at h
  obtain ⟨b, rfl, hb⟩ := of_tupOf e
  simp only [Bool.and_eq_true, decide_eq_true_eq, List.all_eq_true] at h
  refine ⟨b, xs, rfl, hb, h.1.2, fun x hx => ?_⟩
  have := h.2 x hx
  cases x <;> first | exact ⟨_, rfl⟩ | cases this
theorem ok_mead {f g1 g2 g3 : Addr} {fd gd1 gd2 gd3 : FuncData} (F : Fun K "is_mead" "is_mead" sMead f fd) (T : Txt mg) (b1 : Binds K gd1 ["thing", "least", "most"] []) (m1 : mg "is_tuple_within" = some (.ref g1)) (p1 : PySem.W.keepIn K (.ref g1) = true) (G1 : FnOk P w K mg base CX0 1 g1 gd1 ["thing", "least", "most"] spTuple)
  (b2 : Binds K gd2 ["thing"] []) (m2 : mg "is_row" = some (.ref g2)) (p2 : PySem.W.keepIn K (.ref g2) = true) (G2 : FnOk P w K mg base CX0 3 g2 gd2 ["thing"] spRow)
  (b3 : Binds K gd3 ["mead"] []) (m3 : mg "places_of_cells" = some (.ref g3)) (p3 : PySem.W.keepIn K (.ref g3) = true) (G3 : FnOk P w K mg base CX0 1 g3 gd3 ["mead"] spPlaces) : FnOk P w K mg base CX0 4 f fd ["thing"] spMead := by
 obtain ⟨t1, mRow⟩ := T.rows
 obtain ⟨t2, mCel⟩ := T.cells
 refine F.ok scMead (fun vs H Q E h => ?_) (fun cdv A outer s H vs Q E hr h => ?_)
 ·obtain ⟨v, rfl, _⟩ := h; rfl
 ·obtain ⟨v, rfl, k, q⟩ := h
  refine ⟨_, pss_cons (ps_if (pt_not (pt_val (pe_call G1 (hr.mono (by decide)) rfl m1 p1 b1 .nil pass0 (pa_cons (pv 0) (pa_cons pe_int (pa_cons (pe_glob (v := .int 4) rfl mRow ⟨_, rfl⟩) pa_nil)))))) (pss_one (ps_ret pe_bl)) pss_nil)
   (pss_cons (ps_if (pt_not (pt_val (pe_callB (call_all rfl) rfl T.all boot_all (pa_cons (pe_comp1 (defScope sMead).names ["thing"] ["row"] [] rfl (pi_tup (pv 0)) rfl rfl rfl (by decide +kernel)
    (fun Z => pg_name (i := 0) (show (["row"] : List Str).Nodup by decide +kernel) rfl (Or.inl rfl)) (fun Z => pts_nil) (fun Z => pe_call G2 hr rfl m2 p2 b2 .nil pass0 (pa_cons (pv 0) pa_nil))) pa_nil)))) (pss_one (ps_ret pe_bl)) pss_nil)
   (pss_cons (ps_if (pt_not (pt_val (pe_callB (call_all rfl) rfl T.all boot_all (pa_cons (pe_comp1 (defScope sMead).names ["thing"] ["row"] [("thing", 0)] rfl (pi_tup (pv 0)) rfl rfl rfl (by decide +kernel)
    (fun Z => pg_name (i := 0) (show (["row", "thing"] : List Str).Nodup by decide +kernel) rfl (Or.inl rfl)) (fun Z => pts_nil)
    (fun Z => pe_cmpR op_eq (pe_callB call_len_seq rfl T.len PySem.boot_len (pa_cons (pv 0) pa_nil)) (pe_callB call_len_seq rfl T.len PySem.boot_len (pa_cons (pe_ix ix_tup (pv 1) pe_int (fun _ _ => rfl)) pa_nil)) (nomark _))) pa_nil)))) (pss_one (ps_ret pe_bl)) pss_nil)
   (pss_one (ps_ret (pe_chain op_le op_le pe_int (pe_callB call_len_seq rfl T.len PySem.boot_len (pa_cons (pe_call G3 (hr.mono (by decide)) rfl m3 p3 b3 .nil pass0 (pa_cons (pv 0) pa_nil)) pa_nil)) (pe_glob (v := .int 10) rfl mCel ⟨_, rfl⟩)))))), ?_⟩
  refine ⟨_, rfl, v, 1, 4, rfl, k.le (by decide), _, rfl, iteB (fun e => ?_) fun e => ?_⟩
  ·have : goodM H v = false := by
    rw [Bool.not_eq_true'] at e
    unfold tupIn at e; unfold goodM
    cases z : tupOf H v with
    | none => rfl
    | some xs =>
     rw [z] at e
     dsimp only at e ⊢
     rw [Bool.and_eq_false_iff] at e
     simp only [Bool.and_eq_false_iff]
     left; left; left
     rcases e with e | e
     ·left; rw [decide_eq_false_iff_not] at e ⊢; omega
     ·right; rw [decide_eq_false_iff_not] at e ⊢; omega
   have q' := q H (Same.refl H)
   rw [this] at q'; exact q'
  ·have e' : tupIn H 1 4 v = true := by simpa using e
   unfold tupIn at e'
   cases z : tupOf H v with
   | none => rw [z] at e'; cases e'
   | some rows =>
    rw [z] at e'
    dsimp only at e'
    rw [Bool.and_eq_true, decide_eq_true_eq, decide_eq_true_eq] at e'
    obtain ⟨a, rfl, ha⟩ := of_tupOf z
    obtain ⟨hz, hk⟩ := k.items ha
    have g0 : goodM H (.ref a) = (rows.all (rowOk H) && rows.all (fun r => decide (lenOf H r = lenOf H (rows.headD .non))) && (decide (1 ≤ (rows.map (cellsIn H)).sum) && decide ((rows.map (cellsIn H)).sum ≤ 10))) := by
     unfold goodM; rw [z]
     dsimp only
     rw [decide_eq_true (show 1 ≤ rows.length by omega), decide_eq_true (show rows.length ≤ 4 by omega)]
     rfl
    -- all rows
    refine ⟨_, rfl, a, rfl, ⟨rows, SqT.of ha⟩, fun Z l hl => ?_⟩
    refine comp_map (fun x => .bl (rowOk H x)) ha hl hz (fun x H' Q' hm hs hq => ?_) fun σ H1 hs1 hl1 => ?_
    ·refine ⟨_, rfl, x, rfl, (hk x hm).ext hs.ext, fun H2 h2 => ?_⟩
     rw [hs.rowOk ((hk x hm).le (by decide))]
     exact hq _ h2
    ·refine ⟨l, rows.map (rowOk H), rfl, SqL.of (by rw [hl1, List.map_map]; rfl), _, rfl, ?_⟩
     have ea : (rows.map (rowOk H)).all id = rows.all (rowOk H) := by rw [List.all_map]; rfl
     rw [ea]
     refine iteB (fun e2 => ?_) fun e2 => ?_
     ·have q' := q H1 hs1
      have e3 : rows.all (rowOk H) = false := by simpa using e2
      rw [g0, e3] at q'; exact q'
     ·have e3 : rows.all (rowOk H) = true := by simpa using e2
      rw [e3] at g0
      have hr2 : ∀ r ∈ rows, ∃ b xs, r = .ref b ∧ H b = some (.tup xs) ∧ xs.length ≤ 6 ∧ ∀ x ∈ xs, ∃ i, x = .int i := fun r hr' => rowOk_num (List.all_eq_true.mp e3 r hr')
      have hR : RowsAt H rows := ⟨by omega, hr2⟩
      have hne : rows ≠ [] := fun z => by rw [z] at e'; simp at e'
      obtain ⟨r0, rs, er⟩ := List.exists_cons_of_ne_nil hne
      have ha1 := hs1 _ _ ha
      refine ⟨_, rfl, a, rfl, ⟨rows, SqT.of ha1⟩, fun Z2 l2 hl2 => ?_⟩
      refine comp_map (rest := [some (.ref a)]) (fun x => .bl (decide (lenOf H x = lenOf H (rows.headD .non)))) ha1 hl2 hz (fun x H' Q' hm hs hq => ?_) fun σ H2 hs2 hl2' => ?_
      ·obtain ⟨b, xs, rfl, hb, _⟩ := hr2 x hm
       obtain ⟨b0, xs0, e0, hb0, _⟩ := hr2 r0 (by rw [er]; exact List.mem_cons_self)
       have hsH := hs1.trans hs
       refine ⟨_, rfl, b, xs, rfl, .inr (SqT.of (hsH _ _ hb)), _, rfl, a, rows, 0, r0, rfl, rfl, SqT.of (hsH _ _ ha), ?_, b0, xs0, by rw [e0], .inr (SqT.of (hsH _ _ hb0)), rfl, ?_⟩
       ·rw [er]; exact atI_nat (j := 0) rfl
       ·have : decide (V.int (xs.length : Int) = V.int (xs0.length : Int)) = decide (lenOf H (.ref b) = lenOf H (rows.headD .non)) := by
         rw [er]
         show _ = decide (lenOf H (.ref b) = lenOf H r0)
         rw [e0]
         unfold lenOf
         rw [tupOf_of hb, tupOf_of hb0]
         show _ = decide (xs.length = xs0.length)
         by_cases h : xs.length = xs0.length
         ·rw [decide_eq_true h, h]; simp
         ·rw [decide_eq_false h, decide_eq_false]
          intro z; apply h
          have := V.int.inj z
          omega
        rw [this]
        exact hq _ (Same.refl _)
      ·have hs12 := hs1.trans hs2
       refine ⟨l2, rows.map (fun r => decide (lenOf H r = lenOf H (rows.headD .non))), rfl, SqL.of (by rw [hl2', List.map_map]; rfl), _, rfl, ?_⟩
       have ea : (rows.map (fun r => decide (lenOf H r = lenOf H (rows.headD .non)))).all id = rows.all (fun r => decide (lenOf H r = lenOf H (rows.headD .non))) := by rw [List.all_map]; rfl
       rw [ea]
       refine iteB (fun e4 => ?_) fun e4 => ?_
       ·have q' := q H2 hs12
        have e5 : rows.all (fun r => decide (lenOf H r = lenOf H (rows.headD .non))) = false := by simpa using e4
        rw [g0, e5] at q'; exact q'
       ·have e5 : rows.all (fun r => decide (lenOf H r = lenOf H (rows.headD .non))) = true := by simpa using e4
        rw [e5] at g0
        refine ⟨_, rfl, a, rows, rfl, hs12 _ _ ha, hR.same hs12, fun H3 l3 ps hs3 hl3 hP => ?_⟩
        have hlen : ps.length = (rows.map (cellsIn H)).sum := by
         rw [← allCells_length]
         have e6 : allCells H2 rows = allCells H rows := by
          unfold allCells
          congr 1
          refine List.map_congr_left fun p hp => ?_
          have hm : p.1 ∈ rows := by
           obtain ⟨i, hi, e⟩ := List.getElem_of_mem hp
           rw [List.getElem_zipIdx] at e
           rw [← e]; exact List.getElem_mem _
          rw [hs12.tupOf ((hk _ hm).le (by decide))]
         rw [← e6]
         exact Paired.length hP
        refine ⟨l3, ps.map V.ref, rfl, .inl (SqL.of hl3), _, _, rfl, rfl, _, rfl, ite2d (fun h1 => ?_) fun h1 => ?_⟩
        ·refine ⟨_, _, rfl, rfl, ?_⟩
         have q' := q H3 (hs12.trans hs3)
         rw [g0, decide_eq_true (show 1 ≤ (rows.map (cellsIn H)).sum by rw [← hlen]; rw [List.length_map] at h1; omega)] at q'
         have : decide (((ps.map V.ref).length : Int) ≤ 10) = decide ((rows.map (cellsIn H)).sum ≤ 10) := by
          rw [List.length_map, hlen]
          by_cases h : (rows.map (cellsIn H)).sum ≤ 10
          ·rw [decide_eq_true h, decide_eq_true]; omega
          ·rw [decide_eq_false h, decide_eq_false]; omega
         rw [← this] at q'; exact q'
        ·have q' := q H3 (hs12.trans hs3)
         rw [g0, decide_eq_false (show ¬ 1 ≤ (rows.map (cellsIn H)).sum by rw [← hlen]; rw [List.length_map] at h1; omega)] at q'
         exact q'
end
end M54
namespace M54
open PySem L2 PyProof.Rows
noncomputable def spCell (K : PySem.W.Frag) : Sp := fun vs H Q _ => ∃ a ns k, vs = [.ref a, .int k] ∧ SqL K H a ((ns : List Int).map V.int) ∧ 0 ≤ k ∧ ∀ i, Q (.int i) H
noncomputable def spPen : Sp := fun vs H Q _ => ∃ i : Int, vs = [.int i] ∧ ∀ p H', H p = none → Same H H' → PenAt H' p → Q (.ref p) H'
noncomputable def spDraw : Sp := fun vs H Q _ => ∃ p m, vs = [.ref p, .int m] ∧ PenAt H p ∧ 0 < m ∧ m < 1000000 ∧ ∀ d H', 0 ≤ d → d < m → Stp p H H' → Q (.int d) H'
section
variable {P : Program} {w : World} {K : PySem.W.Frag} {mg : Str → Option Value} {base : Heap}
theorem scCell : FnScope ["_law_script", "_law_k"] ["_law_script", "_law_k"] (defScope sCell) := ⟨rfl, rfl, rfl, by decide +kernel, rfl, by decide +kernel, by decide +kernel⟩
theorem ok_cell {f : Addr} {fd : FuncData} (F : Fun K "_law_cell" "_law_cell" sCell f fd) (T : Txt mg) : FnOk P w K mg base CX0 1 f fd ["_law_script", "_law_k"] (spCell K) := by
 refine F.ok scCell (fun vs H Q E h => ?_) (fun cdv A outer s H vs Q E hr h => ?_)
 ·obtain ⟨a, ns, k, rfl, _⟩ := h; rfl
 ·obtain ⟨a, ns, k, rfl, ha, hk, q⟩ := h
  refine ⟨_, pss_cons (ps_if (pt_cmpR op_lt (pv 1) (pe_callB call_len_seq rfl T.len PySem.boot_len (pa_cons (pv 0) pa_nil)) (nomark _)) (pss_one (ps_ret (pe_ix ix_list (pv 0) (pv 1) (fun _ _ => rfl)))) pss_nil) (pss_one (ps_ret pe_int)), ?_⟩
  refine ⟨_, rfl, _, rfl, a, _, rfl, .inl ha, _, _, rfl, rfl, _, rfl, ite2d (fun h1 => ?_) fun h1 => q 0⟩
  rw [List.length_map] at h1
  obtain ⟨n, rfl⟩ := Int.eq_ofNat_of_zero_le hk
  have hlt : n < ns.length := by omega
  exact ⟨_, rfl, _, rfl, a, _, n, .int ns[n], rfl, rfl, ha, atI_nat (by rw [List.getElem?_map]; simp [hlt]), q _⟩
theorem scPen : FnScope ["_law_cell_here"] ["_law_cell_here"] (defScope sPen) := ⟨rfl, rfl, rfl, by decide +kernel, rfl, by decide +kernel, by decide +kernel⟩
theorem ok_pen {f : Addr} {fd : FuncData} (F : Fun K "_law_pen" "_law_pen" sPen f fd) (T : Txt mg) : FnOk P w K mg base CX0 1 f fd ["_law_cell_here"] spPen := by
 refine F.ok scPen (fun vs H Q E h => ?_) (fun cdv A outer s H vs Q E hr h => ?_)
 ·obtain ⟨i, rfl, _⟩ := h; rfl
 ·obtain ⟨i, rfl, q⟩ := h
  refine ⟨_, pss_one (ps_ret (pe_lst (pa_cons (pv 0) (pa_cons (pe_callTy call_int1 rfl T.int boot_int (pa_cons (pe_cmpR op_ge (pv 0) (pe_op op_pow pe_int pe_int) (nomark _)) pa_nil)) pa_nil)))), ?_⟩
  refine ⟨_, rfl, _, rfl, _, _, rfl, rfl, ⟨by decide, by decide, by decide⟩, _, _, rfl, rfl, .inr ⟨_, rfl, ?_⟩⟩
  refine ⟨by show 2 ≤ sizeLine; decide, fun l hl => ?_⟩
  exact q l _ hl (same_upd hl) ⟨_, _, upd_same⟩
theorem scDraw : FnScope ["_law_pen_here", "_law_many", "_law_digit"] ["_law_pen_here", "_law_many"] (defScope sDraw) := ⟨rfl, rfl, rfl, by decide +kernel, rfl, by decide +kernel, by decide +kernel⟩
theorem ok_draw {f : Addr} {fd : FuncData} (F : Fun K "_law_draw" "_law_draw" sDraw f fd) (T : Txt mg) : FnOk P w K mg base CX0 1 f fd ["_law_pen_here", "_law_many"] spDraw := by
 refine F.ok scDraw (fun vs H Q E h => ?_) (fun cdv A outer s H vs Q E hr h => ?_)
 ·obtain ⟨p, m, rfl, _⟩ := h; rfl
 ·obtain ⟨p, m, rfl, ⟨x, f1, hp⟩, h0, h1, q⟩ := h
  refine ⟨_, pss_cons (ps_if (pt_cmpR op_eq (pe_ix ix_list (pv 0) pe_int (fun _ _ => rfl)) pe_int (nomark _))
    (pss_cons (ps_set (i := 2) scDraw.nd rfl (Or.inl rfl) (pe_op op_mod (pe_ix ix_list (pv 0) pe_int (fun _ _ => rfl)) (pv 1)))
    (pss_cons (ps_asg (pe_op op_fdiv (pe_ix ix_list (pv 0) pe_int (fun _ _ => rfl)) (pv 1)) (pg_sub (pv 0) pe_int set_list))
    (pss_one (ps_ret (pv 2))))) pss_nil)
   (pss_cons (ps_asg (pe_op op_mod (pe_op op_add (pe_op op_mul (pe_op op_mod (pe_ix ix_list (pv 0) pe_int (fun _ _ => rfl)) pe_int) pe_int) pe_int) pe_int) (pg_sub (pv 0) pe_int set_list))
   (pss_one (ps_ret (pe_op op_mod (pe_op op_fdiv (pe_op op_mod (pe_op op_add (pe_op op_mul (pe_ix ix_list (pv 0) pe_int (fun _ _ => rfl)) (pe_ix ix_list (pv 0) pe_int (fun _ _ => rfl))) (pe_op op_mul pe_int (pe_ix ix_list (pv 0) pe_int (fun _ _ => rfl)))) pe_int) pe_int) (pv 1))))), ?_⟩
  refine ⟨_, rfl, p, _, 1, _, rfl, rfl, SqL.of hp, atI_nat (j := 1) rfl, rfl, _, rfl, ite2d (fun _ => ?_) fun _ => ?_⟩
  ·refine ⟨_, rfl, p, _, 0, _, rfl, rfl, SqL.of hp, atI_nat (j := 0) rfl, _, rfl, _, _, rfl, rfl, h0, ?_⟩
   refine ⟨_, rfl, p, _, 0, _, rfl, rfl, SqL.of hp, atI_nat (j := 0) rfl, _, rfl, _, _, rfl, rfl, ⟨h0, by omega⟩, ?_⟩
   refine ⟨_, rfl, p, _, 0, 0, rfl, rfl, hp, rfl, ?_⟩
   refine ⟨_, rfl, ?_⟩
   exact q _ _ (Int.emod_nonneg _ (by omega)) (Int.emod_lt_of_pos _ h0) ⟨⟨_, _, upd_same⟩, fun b o hb e => by rw [upd_ne hb]; exact e⟩
  ·have hm : ∀ y : Int, 0 ≤ y % 2147483629 ∧ y % 2147483629 < 2147483629 := fun y => ⟨Int.emod_nonneg _ (by omega), Int.emod_lt_of_pos _ (by omega)⟩
   have b1 := hm x
   have b2 := hm (x % 2147483629 * 48271 + 11)
   refine ⟨_, rfl, p, _, 0, _, rfl, rfl, SqL.of hp, atI_nat (j := 0) rfl, _, _, rfl, rfl, (by show (0 : Int) < 2147483629; decide), _, _, rfl, rfl, .inl ⟨by omega, by omega⟩, _, _, rfl, rfl, _, _, rfl, rfl, (by show (0 : Int) < 2147483629; decide), ?_⟩
   refine ⟨_, rfl, p, _, 0, 0, rfl, rfl, hp, rfl, ?_⟩
   refine ⟨_, rfl, p, _, 0, _, rfl, rfl, SqL.of upd_same, atI_nat (j := 0) rfl, _, rfl, p, _, 0, _, rfl, rfl, SqL.of upd_same, atI_nat (j := 0) rfl, _, _, rfl, rfl, .inl ⟨by omega, by omega⟩, ?_⟩
   refine ⟨_, rfl, p, _, 0, _, rfl, rfl, SqL.of upd_same, atI_nat (j := 0) rfl, _, _, rfl, rfl, .inl ⟨by decide, by decide⟩, _, _, rfl, rfl, _, _, rfl, rfl, (by show (0 : Int) < 2147483647; decide), _, _, rfl, rfl, ⟨by decide, by decide⟩, _, rfl, _, _, rfl, rfl, h0, ?_⟩
   exact q _ _ (Int.emod_nonneg _ (by omega)) (Int.emod_lt_of_pos _ h0) ⟨⟨_, _, upd_same⟩, fun b o hb e => by rw [upd_ne hb]; exact e⟩
end
end M54
namespace L2
open PySem PySem.Spec PyProof.Rows Builtin Builtin.Str
theorem vals_strs : ∀ (l : List (Str × Tok)), Vals ((l.map (·.1)).map V.str) (strValues l)
 | [] => .nil
 | (x, t) :: l => .cons ⟨t, rfl⟩ (vals_strs l)
section
variable {X : Cx}
noncomputable def rSplit : V → List V → Hp → VK → Prop := fun x xs H Q => ∃ a b : Str, x = .str a ∧ xs = [.str b] ∧ (b.length == 0) = false ∧ a.length ≤ sizeLine ∧ (partsBetween a (occurrences a b 0 a.length (a.length + 1)) b.length).length ≤ sizeLine ∧ ∀ l, H l = none → Q (.ref l) (upd H l (.lst ((Txt.split a b).map V.str)))
theorem mt_split : MtR X "str.split" rSplit := by
 intro pins s σ H x xs v us Q I rx rv h
 obtain ⟨a, b, rfl, rfl, hy, hsz, hsz2, q⟩ := h
 obtain ⟨t, rfl⟩ := rx
 obtain ⟨u0, rfl, ru⟩ := rv.one
 obtain ⟨u, rfl⟩ := ru
 have key : ∀ (l : List (Str × Tok)) (tk : Tok), l.map (·.1) = Txt.split a b → l.length ≤ sizeLine →
   EP X pins σ Q (.ref s.heap.objs.size) { s with toks := tk, heap := s.heap.push { cls := .type "list", data := .seq (strValues l).toArray } } := fun l tk e hl => by
  refine ⟨.ref _, _, I.laid (t' := tk) (o := .lst ((Txt.split a b).map V.str)) (fun b ob q => Heap.get?_push_of_some _ q) (Nat.le_refl _) ⟨?_, strValues l, 0, ?_, Heap.get?_push_size _ rfl⟩, rfl, q _ (I.hok.fresh (Nat.le_refl _))⟩
  ·rw [← e, List.length_map, List.length_map]; exact hl
  ·rw [← e]; exact vals_strs l
 cases h1 : (decide (a.length < b.length) || decide (strKind a < strKind b))
 ·cases hf : (occurrences a b 0 a.length (a.length + 1)).isEmpty
  ·refine call_meets F.slot_str_split (typeIs_str _ _ _) F.entry_str_split (F.args_str_split_2 _ _) (meets_str_split_sep a b t u h1 hy hf hsz hsz2) ?_
   show wants _ _ _ { s with toks := _, heap := s.heap.push { cls := .type "list", data := .seq (strsFrom s.toks (partsBetween a (occurrences a b 0 a.length (a.length + 1)) b.length)).toArray } }
   rw [strsFrom_eq]
   refine key (numbered s.toks _) _ ((numbered_texts _ _).trans ((if_neg (ne_true_of_eq_false h1)).trans (if_neg (ne_true_of_eq_false hf))).symm) ?_
   have := congrArg List.length (numbered_texts s.toks (partsBetween a (occurrences a b 0 a.length (a.length + 1)) b.length))
   rw [List.length_map] at this
   rw [this]; exact hsz2
  ·exact call_meets F.slot_str_split (typeIs_str _ _ _) F.entry_str_split (F.args_str_split_2 _ _) (meets_str_split_not_found a b t u h1 hy hf)
    (key [(a, t)] s.toks ((if_neg (ne_true_of_eq_false h1)).trans (if_pos hf)).symm (by show 1 ≤ sizeLine; decide))
 ·exact call_meets F.slot_str_split (typeIs_str _ _ _) F.entry_str_split (F.args_str_split_2 _ _) (meets_str_split_cannot_occur a b t u h1)
   (key [(a, t)] s.toks (if_pos h1).symm (by show 1 ≤ sizeLine; decide))
theorem strs_of : ∀ {texts : List Str} {its : List Value}, Vals (texts.map V.str) its → ∃ l : List (Str × Tok), l.map (·.1) = texts ∧ its = strValues l
 | [], _, .nil => ⟨[], rfl, rfl⟩
 | x :: xs, _, .cons ⟨t, e⟩ r => by
  obtain ⟨l, h1, h2⟩ := strs_of r
  subst e
  exact ⟨(x, t) :: l, by rw [List.map_cons, h1], by rw [h2]; rfl⟩
noncomputable def rJoin (K : PySem.W.Frag) : V → List V → Hp → VK → Prop := fun x xs H Q => ∃ (a : Str) (d : Addr) (ts : List Str), x = .str a ∧ xs = [.ref d] ∧ SqL K H d (ts.map V.str) ∧ JoinOk a ts = true ∧ Q (.str (Txt.join a ts)) H
theorem mt_join : MtR X "str.join" (rJoin X.K) := by
 intro pins s σ H x xs v us Q I rx rv h
 obtain ⟨a, d, ts, rfl, rfl, hd, ok, q⟩ := h
 obtain ⟨t, rfl⟩ := rx
 obtain ⟨u0, rfl, ru⟩ := rv.one
 cases ru
 obtain ⟨its, r, ⟨o, n, e, hc, _, hdt⟩, _⟩ := I.list hd
 obtain ⟨l, hl, rfl⟩ := strs_of r
 refine SC.join (l := l) ⟨o, e, hc, n, hdt⟩ hl ok fun t' k => ?_
 exact ⟨.str _, H, I.kept (t' := k) fun _ _ q => q, ⟨_, rfl⟩, q⟩
noncomputable def rStarts : V → List V → Hp → VK → Prop := fun x xs H Q => ∃ a b : Str, x = .str a ∧ xs = [.str b] ∧ Q (.bl (Txt.startswith a b)) H
theorem mt_startswith : MtR X "str.startswith" rStarts := by
 intro pins s σ H x xs v us Q I rx rv h
 obtain ⟨a, b, rfl, rfl, q⟩ := h
 obtain ⟨t, rfl⟩ := rx
 obtain ⟨u0, rfl, ru⟩ := rv.one
 obtain ⟨u, rfl⟩ := ru
 exact SC.startswith ⟨.bl _, H, I, rfl, q⟩
theorem split_size (a b : Str) : (partsBetween a (occurrences a b 0 a.length (a.length + 1)) b.length).length ≤ a.length + 2 := by
 rw [length_partsBetween]
 have := StrLaws.occ_length_le a b 0 a.length (a.length + 1)
 omega
noncomputable def cutS (x : Str) (lo hi : Option Int) : Str := if ((strSliceIndices lo hi 1 x.length).length == x.length) = true then x else ⟨((strSliceIndices lo hi 1 x.length).filterMap (x.cps[·]?)).toArray⟩
noncomputable def rSlS : V → Option Int → Option Int → Hp → VK → Prop := fun x lo hi H Q => ∃ a : Str, x = .str a ∧ (cutS a lo hi).length ≤ sizeLine ∧ Q (.str (cutS a lo hi)) H
theorem part_of {v : Value} {lo : Option Int} (h : IsPart v lo) : ∃ l : Option (Int × Tok), v = partValue l ∧ l.map (·.1) = lo := by
 cases h with
 | none => exact ⟨none, rfl, rfl⟩
 | int i t => exact ⟨some (i, t), rfl, rfl⟩
theorem sl_str : SlR X rSlS := by
 intro pins s σ H x v vl vu lo hi sl Q I rx hs pl pu h
 obtain ⟨a, rfl, hz, q⟩ := h
 obtain ⟨t, rfl⟩ := rx
 obtain ⟨l, rfl, rfl⟩ := part_of pl
 obtain ⟨u, rfl, rfl⟩ := part_of pu
 refine ⟨"str", _, F.slot_str_getitem.lookup, typeIs_str _ _ _, ?_⟩
 refine wpAny_getItem_str_slice (l := l) (u := u) (st := none) hs rfl ?_
 unfold cutS at q hz
 unfold sliceMade slicePicked
 by_cases hw : ((strSliceIndices (l.map (·.1)) (u.map (·.1)) 1 a.length).length == a.length) = true
 ·rw [if_pos hw] at q
  rw [if_pos (by show ((1 : Int) == 1 && _) = true; rw [show ((1 : Int) == 1) = true from rfl, Bool.true_and]; exact hw)]
  exact ⟨.str a, H, I, ⟨t, rfl⟩, q⟩
 ·rw [if_neg hw] at q hz
  rw [if_neg (by show ¬ ((1 : Int) == 1 && _) = true; rw [show ((1 : Int) == 1) = true from rfl, Bool.true_and]; exact hw)]
  exact ⟨hz, .str _, H, I.tok _, ⟨_, rfl⟩, q⟩
theorem call_int_text : CallR X (.type "int") (fun xs H Q => ∃ (a : Str) (n : Int), xs = [.str a] ∧ intText? a = some n ∧ a.length ≤ 640 ∧ Q (.int n) H) := by
 intro pins s σ H xs us Q I r h
 obtain ⟨a, n, rfl, hn, hl, q⟩ := h
 obtain ⟨u, rfl, t, rfl⟩ := vals1 r
 exact PySem.W.KIN.call_text hn hl ⟨.int n, H, I.tok _, ⟨_, rfl⟩, q⟩
end
end L2
namespace L2
open PySem PySem.Spec PyProof.Rows
noncomputable def sgn (c : Nat) : V := .str ⟨#[c]⟩
noncomputable def Its (x : Str) : It := ⟨fun i _ => i < x.cps.size, fun i H v H' => H' = H ∧ ∃ c, x.cps[i]? = some c ∧ v = sgn c, fun i _ => x.cps.size ≤ i⟩
theorem turn_ascii {P : Program} {w : World} {K : PySem.W.Frag} {tg : Expr} (x : Str) (t : Tok) (it : Addr) : Turn P w K tg (Its x) [it] it (fun i h => h.IsStrIter it "str_ascii_iterator" x t i) where
 mem := by simp
 obj := fun i h st b hb => by
  have e : b = it := by simpa using hb
  subst e
  obtain ⟨o, e, c, d⟩ := st
  exact ⟨o, e, fun v z => by rw [d] at z; cases z⟩
 keep := fun i h h' st k => let ⟨o, e, r⟩ := st; ⟨o, k it (by simp) o e, r⟩
 item := by
  intro X hP hw hK hc i pins s σ H E I hf st hg
  subst hP hw hK
  have hi : i < x.cps.size := hg
  obtain ⟨f0, f1, f2, f3, f4, f5⟩ := hf it (by simp)
  refine wpAny_pyNext_ascii_item st (c := x.cps[i]) (by simp [hi]) fun h' st' sb => ?_
  have I1 : Inv X pins σ H { s with heap := h', toks := s.toks + 1 } := I.turned (t' := s.toks + 1) (fun b o hb e => (sb.2 b hb).trans e) f0 f1 f3 f4 f5
  obtain ⟨o, e, c, d⟩ := id st'
  exact ⟨_, rfl, go_of (s := { s with heap := h', toks := s.toks + 1 }) e c d (by decide) ⟨sgn x.cps[i], H, I1, ⟨_, rfl⟩, ⟨rfl, _, by simp [hi], rfl⟩, st', fun b hb => (hf b hb).1⟩⟩
 done := by
  intro X hP hw hK hc i pins s σ H E I hf st hg
  subst hP hw hK
  have hi : x.cps.size ≤ i := hg
  obtain ⟨f0, f1, f2, f3, f4, f5⟩ := hf it (by simp)
  exact wpAny_pyNext_ascii_end (I.ok.hd hc) st (by simp; omega) fun h' eb => ⟨rfl, I.turned (t' := s.toks) (fun b o hb e => eb b o hb e) f0 f1 f3 f4 f5⟩
 self := fun _ _ _ _ _ st hQ => wpAny_pyIter_striter_ascii st hQ
theorem turn_wide {P : Program} {w : World} {K : PySem.W.Frag} {tg : Expr} (x : Str) (t : Tok) (it : Addr) : Turn P w K tg (Its x) [it] it (fun i h => h.IsStrIter it "str_iterator" x t i) where
 mem := by simp
 obj := fun i h st b hb => by
  have e : b = it := by simpa using hb
  subst e
  obtain ⟨o, e, c, d⟩ := st
  exact ⟨o, e, fun v z => by rw [d] at z; cases z⟩
 keep := fun i h h' st k => let ⟨o, e, r⟩ := st; ⟨o, k it (by simp) o e, r⟩
 item := by
  intro X hP hw hK hc i pins s σ H E I hf st hg
  subst hP hw hK
  have hi : i < x.cps.size := hg
  obtain ⟨f0, f1, f2, f3, f4, f5⟩ := hf it (by simp)
  refine wpAny_pyNext_wide_item st (c := x.cps[i]) (by simp [hi]) fun h' st' sb => ?_
  have I1 : Inv X pins σ H { s with heap := h', toks := s.toks + 1 } := I.turned (t' := s.toks + 1) (fun b o hb e => (sb.2 b hb).trans e) f0 f1 f3 f4 f5
  obtain ⟨o, e, c, d⟩ := id st'
  exact ⟨_, rfl, go_of (s := { s with heap := h', toks := s.toks + 1 }) e c d (by decide) ⟨sgn x.cps[i], H, I1, ⟨_, rfl⟩, ⟨rfl, _, by simp [hi], rfl⟩, st', fun b hb => (hf b hb).1⟩⟩
 done := by
  intro X hP hw hK hc i pins s σ H E I hf st hg
  subst hP hw hK
  have hi : x.cps.size ≤ i := hg
  obtain ⟨f0, f1, f2, f3, f4, f5⟩ := hf it (by simp)
  exact wpAny_pyNext_wide_end (I.ok.hd hc) st (by simp; omega) fun h' eb => ⟨rfl, I.turned (t' := s.toks) (fun b o hb e => eb b o hb e) f0 f1 f3 f4 f5⟩
 self := fun _ _ _ _ _ st hQ => wpAny_pyIter_striter_wide st hQ
section
variable {X : Cx} {tg : Expr}
noncomputable def iStr (tl : TE) : TI := fun σ H R => tl σ H fun v H1 => ∃ x, v = .str x ∧ R (Its x) H1
theorem pi_str {l : Expr} {tl : TE} (hl : PE X l tl) : PI X tg l (iStr tl) := by
 intro pins s σ H R I h
 refine thn (hl pins s σ H _ I h) fun v s1 ⟨y, H1, I1, r1, q1⟩ => ?_
 obtain ⟨x, e, q⟩ := q1
 subst e
 obtain ⟨t, rfl⟩ := r1
 cases ha : x.cps.all (· < 128)
 ·refine wpAny_pyIter_wide ha ?_
  refine ⟨s1.heap.objs.size, [s1.heap.objs.size], _, _, H1, rfl, I1.kept (t' := s1.toks) fun b o e => Heap.get?_push_of_some _ e, turn_wide x t _, ⟨_, Heap.get?_push_size _ rfl, rfl, rfl⟩, fun b hb => ?_, q⟩
  have e : b = s1.heap.objs.size := by simpa using hb
  subst e
  exact I1.fpOk (Nat.le_refl _) (I1.hok.fresh (Nat.le_refl _))
 ·refine wpAny_pyIter_ascii ha ?_
  refine ⟨s1.heap.objs.size, [s1.heap.objs.size], _, _, H1, rfl, I1.kept (t' := s1.toks) fun b o e => Heap.get?_push_of_some _ e, turn_ascii x t _, ⟨_, Heap.get?_push_size _ rfl, rfl, rfl⟩, fun b hb => ?_, q⟩
  have e : b = s1.heap.objs.size := by simpa using hb
  subst e
  exact I1.fpOk (Nat.le_refl _) (I1.hok.fresh (Nat.le_refl _))
end
theorem for_str {x : Str} {g : TG} {tb : TS} {D : Ends} {σ : St} {H : Hp} (Pv : Nat → St → Hp → Prop) (h0 : Pv 0 σ H)
  (hs : ∀ i c σ H, x.cps[i]? = some c → Pv i σ H → g (sgn c) σ H fun σ2 H2 => tb { D with nx := Pv (i + 1), ct := Pv (i + 1), bk := D.nx } σ2 H2) (hd : ∀ σ H, Pv x.cps.size σ H → D.nx σ H) :
  tForJ (Its x) g tb D σ H := by
 refine ⟨fun i m σ H => m = x.cps.size - i ∧ i ≤ x.cps.size ∧ Pv i σ H, ⟨x.cps.size, by simp, Nat.zero_le _, h0⟩, ?_⟩
 rintro i m σ H ⟨rfl, hi, p⟩
 by_cases hlt : i < x.cps.size
 ·refine .inr ⟨hlt, Pv (i + 1), fun σ' H' p' => ⟨x.cps.size - (i + 1), by omega, rfl, hlt, p'⟩, fun v H' y => ?_⟩
  obtain ⟨rfl, c, hc, rfl⟩ := y
  exact hs i c σ _ hc p
 ·have e : i = x.cps.size := by omega
  subst e
  exact .inl ⟨Nat.le_refl _, hd σ H p⟩
end L2
namespace M54
open PySem L2 PyProof.Rows
noncomputable def fig (a : Str) : Str := if Txt.startswith a "-" = true then cutS a (some 1) none else a
noncomputable def inF (c : Nat) : Bool := !(Builtin.Str.occurrences ("0123456789" : Str) ⟨#[c]⟩ 0 ("0123456789" : Str).length 1).isEmpty
noncomputable def wr (a : Str) : Bool := decide (1 ≤ (fig a).length) && (decide ((fig a).length ≤ 5) && ((fig a).cps.toList.all inF && (decide (V.str a = V.str "0") || !Txt.startswith (fig a) "0")))
theorem cutS_len (a : Str) : (cutS a (some 1) none).length ≤ a.length := by
 unfold cutS
 split
 ·exact Nat.le_refl _
 ·show (((Builtin.Str.strSliceIndices (some 1) none 1 a.length).filterMap (a.cps[·]?)).toArray).size ≤ a.length
  rw [List.size_toArray]
  refine Nat.le_trans (List.length_filterMap_le _ _) ?_
  show (sliceRange (max 0 (min 1 (a.length : Int))) (a.length : Int) 1).length ≤ a.length
  unfold sliceRange
  rw [List.length_map, List.length_range]
  rw [if_pos (by decide)]
  split
  ·rw [Int.ediv_one]; omega
  ·simp
noncomputable def spWritten : Sp := fun vs H Q _ => ∃ a : Str, vs = [.str a] ∧ a.length ≤ 1000 ∧ ∀ H', Same H H' → Q (.bl (wr a)) H'
section
variable {P : Program} {w : World} {K : PySem.W.Frag} {mg : Str → Option Value} {base : Heap}
theorem scWritten : FnScope ["text", "figures"] ["text"] (defScope sWritten) := ⟨rfl, rfl, rfl, by decide +kernel, rfl, by decide +kernel, by decide +kernel⟩
theorem ok_written {f : Addr} {fd : FuncData} (F : Fun K "is_written_number" "is_written_number" sWritten f fd) (T : Txt mg) : FnOk P w K mg base CX0 1 f fd ["text"] spWritten := by
 obtain ⟨t1, mF⟩ := T.figures
 obtain ⟨t2, mM⟩ := T.mostFig
 refine F.ok scWritten (fun vs H Q E h => ?_) (fun cdv A outer s H vs Q E hr h => ?_)
 ·obtain ⟨a, rfl, _⟩ := h; rfl
 ·obtain ⟨a, rfl, ha, q⟩ := h
  have nd := scWritten.nd
  have fz : (fig a).length ≤ 1000 := by
   unfold fig; split
   ·exact Nat.le_trans (cutS_len a) ha
   ·exact ha
  have tail : ∀ H1, Same H H1 → (1 ≤ (fig a).length ∧ (fig a).length ≤ 5 ∧ (fig a).cps.toList.all inF = true) → Q (.bl (decide (V.str a = V.str "0") || !Txt.startswith (fig a) "0")) H1 := fun H1 s1 h => by
   have := q H1 s1
   unfold wr at this
   rw [decide_eq_true h.1, decide_eq_true h.2.1, h.2.2] at this
   exact this
  have fail : ∀ H1, Same H H1 → ¬ (1 ≤ (fig a).length ∧ (fig a).length ≤ 5 ∧ (fig a).cps.toList.all inF = true) → Q (.bl false) H1 := fun H1 s1 h => by
   have e := q H1 s1
   have : wr a = false := by
    unfold wr
    rw [Bool.eq_false_iff]
    intro z
    simp only [Bool.and_eq_true, decide_eq_true_eq] at z
    exact h ⟨z.1, z.2.1, z.2.2.1⟩
   rw [this] at e; exact e
  have t2 : ∃ tt, PSs (cxOf CX0 P w K mg base ["text", "figures"] "is_written_number" (defScope sWritten) f cdv A outer s H E).nox ((defBody sWritten).drop 1) tt ∧ tt { nx := fun _ H' => Q .non H', rt := Q } [some (.str a), some (.str (fig a))] H := by
   refine ⟨_, pss_cons (ps_if (PW.pt (pw_or (pt_not (pt_chain op_le op_le pe_int (pe_callB call_len_str rfl T.len PySem.boot_len (pa_v (pv 1) pa_nil)) (pe_glob (v := .int 5) rfl mM ⟨_, rfl⟩))) (pw_or1 (pt_not (pt_val (pe_callB (call_all rfl) rfl T.all boot_all (pa_lc (pe_comp1 (defScope sWritten).names ["text", "figures"] ["sign"] [] rfl (pi_str (pv 1)) rfl rfl rfl (by decide +kernel)
    (fun Z => pg_name (i := 0) (show (["sign"] : List Str).Nodup by decide +kernel) rfl (Or.inl rfl)) (fun Z => pts_nil) (fun Z => pe_cmpR op_in_str (pv 0) (pe_glob (v := .str "0123456789") rfl mF ⟨_, rfl⟩) rfl)) pa_nil))))))) (pss_one (ps_ret pe_bl)) pss_nil) <|
    pss_one (ps_ret (pe_or (pe_cmpR op_eq (pv 0) pe_str (nomark _)) (pe_one (pe_not (pe_bm PySem.F.plainAttrs_str PySem.F.slot_str_startswith PySem.F.type_str_startswith mt_startswith (pv 1) (pa_c pe_str pa_nil)))))), ?_⟩
   refine ⟨_, rfl, fig a, rfl, by rw [sizeLine_eq]; omega, _, _, rfl, rfl, _, rfl, ite2d (fun h1 => ?_) fun h1 => ?_⟩
   ·refine ⟨_, _, rfl, rfl, _, rfl, iteB (fun h5 => ?_) fun h5 => ?_⟩
    ·refine fail H (Same.refl H) fun z => ?_
     have : ¬ ((fig a).length : Int) ≤ 5 := by simpa using h5
     omega
    have h5' : ((fig a).length : Int) ≤ 5 := by simpa using h5
    refine ⟨_, rfl, fig a, rfl, fun Z l hl => ?_⟩
    refine for_str (x := fig a) (fun i σ H' => σ.length = 1 ∧ Same H H' ∧ H' l = some (.lst (((fig a).cps.toList.take i).map fun c => V.bl (inF c)))) ⟨rfl, same_upd hl, by rw [upd_same]; rfl⟩ ?_ ?_
    ·rintro i c σ H' hi ⟨hσ, hs, hl'⟩
     match σ, hσ with
     | [x0], _ =>
     refine body_name ?_
     have hil : i < (fig a).cps.size := (Array.getElem?_eq_some_iff.mp hi).1
     have hlz : (fig a).cps.size = (fig a).length := rfl
     refine ⟨_, rfl, ⟨#[c]⟩, "0123456789", rfl, rfl, ?_⟩
     refine ⟨_, hl', small1000 (by rw [List.length_map, List.length_take]; omega), rfl, fun b u e => ?_, ?_⟩
     ·rw [upd_ne (ne_of_none e hl)]; exact hs _ _ e
     ·have e1 : (fig a).cps.toList[i]? = some c := by rw [Array.getElem?_toList]; exact hi
      rw [upd_same, List.take_succ, e1, List.map_append]; rfl
    ·rintro σ H' ⟨_, hs, hl'⟩
     have e0 : (fig a).cps.toList.take (fig a).cps.size = (fig a).cps.toList := List.take_of_length_le (by rw [Array.length_toList]; exact Nat.le_refl _)
     rw [e0] at hl'
     refine ⟨l, (fig a).cps.toList.map inF, rfl, SqL.of (by rw [hl', List.map_map]; rfl), _, rfl, ?_⟩
     have e1 : ((fig a).cps.toList.map inF).all id = (fig a).cps.toList.all inF := by rw [List.all_map]; rfl
     rw [e1]
     cases hall : (fig a).cps.toList.all inF with
     | false =>
      refine iteT (fail H' hs fun z => ?_)
      rw [hall] at z; exact absurd z.2.2 (by decide)
     | true =>
      refine iteF ?_
      have tl := tail H' hs ⟨by omega, by omega, hall⟩
      refine ⟨_, rfl, rfl, _, rfl, ?_⟩
      cases hz : decide (V.str a = V.str "0") with
      | true =>
       refine iteT ?_
       rw [hz] at tl; exact tl
      | false =>
       refine iteF ?_
       rw [hz] at tl
       exact ⟨_, rfl, rfl, fig a, _, rfl, rfl, _, rfl, tl⟩
   ·refine ⟨_, rfl, iteT (fail H (Same.refl H) fun z => ?_)⟩
    omega
  obtain ⟨tt, ht, kt⟩ := t2
  refine ⟨_, pss_cons (ps_set (i := 1) nd rfl (Or.inl rfl) (pe_ifExp (pt_val (pe_bm PySem.F.plainAttrs_str PySem.F.slot_str_startswith PySem.F.type_str_startswith mt_startswith (pv 0) (pa_c pe_str pa_nil))) (pe_slice sl_str (pv 0) (po_some pe_int) po_none) (pv 0))) ht, ?_⟩
  refine ⟨_, rfl, rfl, a, _, rfl, rfl, _, rfl, iteB (fun hst => ?_) fun hst => ?_⟩
  ·have ef : fig a = cutS a (some 1) none := by unfold fig; rw [if_pos hst]
   refine ⟨_, rfl, _, rfl, a, rfl, ?_, ?_⟩
   ·rw [← ef, sizeLine_eq]; omega
   ·rw [← ef]; exact kt
  ·have ef : fig a = a := by unfold fig; rw [if_neg (by rw [hst]; decide)]
   refine ⟨_, rfl, ?_⟩
   rw [ef] at kt; exact kt
end
end M54
namespace M54
open PySem L2 PyProof.Rows
theorem inF_digit {c : Nat} (h : inF c = true) : 48 ≤ c ∧ c ≤ 57 := by
 unfold inF at h
 rw [StrLaws.found_one] at h
 have := of_decide_eq_true h
 have e : ("0123456789" : Str).cps.toList = [48, 49, 50, 51, 52, 53, 54, 55, 56, 57] := by decide +kernel
 rw [e] at this
 simp only [List.mem_cons, List.not_mem_nil, or_false] at this
 omega
theorem rg : ∀ cs : List Nat, (List.range cs.length).filterMap (fun k => cs[k]?) = cs
 | [] => rfl
 | c :: cs => by
  rw [List.length_cons, List.range_succ_eq_map, List.filterMap_cons]
  show c :: ((List.range cs.length).map Nat.succ).filterMap (fun k => (c :: cs)[k]?) = c :: cs
  rw [List.filterMap_map]
  exact congrArg (c :: ·) (rg cs)
theorem cut1 {a : Str} {c : Nat} {cs : List Nat} (h : a.cps.toList = c :: cs) : (cutS a (some 1) none).cps.toList = cs := by
 have hl : a.length = cs.length + 1 := by
  show a.cps.size = _
  rw [← Array.length_toList, h]; rfl
 have e : Builtin.Str.strSliceIndices (some 1) none 1 a.length = (List.range cs.length).map (· + 1) := by
  show sliceRange (max 0 (min 1 (a.length : Int))) (a.length : Int) 1 = _
  unfold sliceRange
  rw [hl]
  have e1 : max 0 (min 1 ((cs.length + 1 : Nat) : Int)) = 1 := by omega
  rw [e1]
  dsimp only
  rw [if_pos (by decide)]
  have e2 : (if (1 : Int) < ((cs.length + 1 : Nat) : Int) then (((cs.length + 1 : Nat) : Int) - 1 + 1 - 1) / 1 else 0).toNat = cs.length := by
   split
   ·rw [Int.ediv_one]; omega
   ·omega
  rw [e2]
  apply List.map_congr_left
  intro k _
  omega
 unfold cutS
 rw [if_neg (by rw [e, List.length_map, List.length_range, hl]; simp)]
 show ((Builtin.Str.strSliceIndices (some 1) none 1 a.length).filterMap (a.cps[·]?)).toArray.toList = cs
 rw [e, List.filterMap_map]
 have e3 : (List.range cs.length).filterMap ((fun x => a.cps[x]?) ∘ (· + 1)) = (List.range cs.length).filterMap (fun k => cs[k]?) := by
  congr 1
  funext k
  show a.cps[k + 1]? = cs[k]?
  rw [← Array.getElem?_toList, h]; rfl
 rw [e3]
 exact rg cs
theorem minus_is : ("-" : Str) = ⟨#[45]⟩ := by decide +kernel
theorem starts_minus {a : Str} (h : Txt.startswith a "-" = true) : ∃ cs, a.cps.toList = 45 :: cs := by
 rw [minus_is] at h
 unfold Txt.startswith at h
 rw [Bool.and_eq_true, decide_eq_true_eq] at h
 have := (StrLaws.subAt_one a 45 0).mp h
 cases e : a.cps.toList with
 | nil => rw [e] at this; cases this
 | cons c cs => rw [e] at this; cases this; exact ⟨cs, rfl⟩
theorem wr_int {a : Str} (h : wr a = true) : ∃ n, intText? a = some n := by
 unfold wr at h
 simp only [Bool.and_eq_true, decide_eq_true_eq] at h
 obtain ⟨h1, h5, hall, _⟩ := h
 have hd : NumText.AllDigits (fig a).cps.toList := fun c hc => inF_digit (List.all_eq_true.mp hall c hc)
 have hne : (fig a).cps.toList ≠ [] := fun z => by
  have : (fig a).length = 0 := by show (fig a).cps.size = 0; rw [← Array.length_toList, z]; rfl
  omega
 by_cases hst : Txt.startswith a "-" = true
 ·obtain ⟨cs, e⟩ := starts_minus hst
  have ef : (fig a).cps.toList = cs := by unfold fig; rw [if_pos hst]; exact cut1 e
  rw [ef] at hd hne
  have hfl : (fig a).length = cs.length := by show (fig a).cps.size = _; rw [← Array.length_toList, ef]
  have hal : a.length = cs.length + 1 := by show a.cps.size = _; rw [← Array.length_toList, e]; rfl
  exact ⟨_, PySem.intText_neg e hd hne (by omega)⟩
 ·have ef : fig a = a := by unfold fig; rw [if_neg hst]
  rw [ef] at hd hne h5
  exact ⟨_, PySem.intText_digits hd hne (by omega)⟩
end M54
namespace L2
open PySem PySem.Spec PyProof.Rows
theorem noteFrame_frame {e : Value} {env env' : Env} (h : env.frame = env'.frame) : noteFrame e env = noteFrame e env' := by
 unfold noteFrame PySem.frameOf
 rw [h]
section
variable {M : Model} {A : Around} {E : Value → Shared → Prop} {s : Shared}
theorem wpAny_noteFrame_anyW {base : Heap} {env : Env} {outer : List Env} {L e : Addr} {cls a0 fl : Value} {Q : Unit → Shared → Prop}
  (hfr : A.frames = some (env :: outer)) (hl : s.heap.FunFrames base (env :: outer)) (hf : env.frame = some L) (ht : s.heap.TracedAtW base e cls a0 fl) (hkb : base.StaysIn s.heap) (hen : base.get? e = none)
  (h : ∀ h', Heap.NotedW base (env :: outer) e cls a0 (rawInt L) s.heap h' → Q () { s with heap := h' }) : wpAny M A (noteFrame (.ref e) env) Q E s := by
 by_cases hfl : fl = rawInt L
 ·subst hfl
  exact wpAny_noteFrame_againW hf ht (h s.heap ⟨hkb, hl, ht, fun b o q _ => ⟨o.slots, q⟩⟩)
 obtain ⟨oe, vs, T, oT, ts, he, ⟨hcls, h0⟩, hd, h1, hnT, hTe, hT, hdT, h3⟩ := ht
 subst hcls
 unfold noteFrame
 simp only [hf]
 refine wpAny_bind (wpAny_field he hd h1 ?_)
 rw [if_pos (show (Value.ref T != Value.none) = true from by simp)]
 refine wpAny_bind (wpAny_field hT hdT h3 ?_)
 rw [if_neg (show ¬ ((fl == rawInt L) = true) from fun z => hfl (eq_of_beq z))]
 refine wpAny_bind (wpAny_setField hT hdT (Array.getElem?_eq_some_iff.mp h3).1 ?_)
 have other : ∀ b, b ≠ T → (s.heap.update T (Obj.mapFields (·.setIfInBounds 3 Value.none))).get? b = s.heap.get? b := fun b hb => Heap.get?_update_other _ _ (Ne.symm hb)
 have noRecord : ∀ b o, s.heap.get? b = some o → (∀ vs, o.data ≠ .fields vs) → b ≠ T := fun b o hb hnf q => by
  rw [q, hT] at hb; injection hb with hb; subst hb; exact hnf ts hdT
 refine wpAny_entryW hfr (hl.of_keeps fun b o hb hnf => ⟨o, (other b (noRecord b o hb hnf)).trans hb, rfl⟩) hf ((other e (Ne.symm hTe)).trans he)
  (fun b o hbo => (other b fun q => by rw [q, hnT] at hbo; cases hbo).trans (hkb b o hbo)) hen hd (Array.getElem?_eq_some_iff.mp h1).1 h0
  fun h' ⟨x1, x2, x3, x4⟩ => h h' ⟨x1, x2, x3, fun b o hb hnf => x4 b o ((other b (noRecord b o hb hnf)).trans hb) hnf⟩
theorem wpAny_setFlight_anyW {base : Heap} {l : List Env} {e : Addr} {cls a0 fl : Value} {fr : Option Addr} {Q : Unit → Shared → Prop}
  (hkb : base.StaysIn s.heap) (hl : s.heap.FunFrames base l) (ht : s.heap.TracedAtW base e cls a0 fl)
  (h : ∀ h', base.StaysIn h' → h'.FunFrames base l → h'.TracedAtW base e cls a0 (fr.elim .none fun f => rawInt f) → (∀ b o, s.heap.get? b = some o → (∀ vs, o.data ≠ .fields vs) → h'.get? b = some o) → Q () { s with heap := h' }) :
  wpAny M A (setFlight (.ref e) fr) Q E s := by
 obtain ⟨oe, vs, T, oT, ts, he, hcls, hd, h1, hnT, hTe, hT, hdT, h3⟩ := ht
 have hsz3 : 3 < ts.size := (Array.getElem?_eq_some_iff.mp h3).1
 have other : ∀ b, b ≠ T → (s.heap.update T (Obj.mapFields (·.setIfInBounds 3 (fr.elim Value.none fun f => rawInt f)))).get? b = s.heap.get? b :=
  fun b hb => Heap.get?_update_other _ _ (Ne.symm hb)
 have noRecord : ∀ b o, s.heap.get? b = some o → (∀ vs, o.data ≠ .fields vs) → b ≠ T := fun b o hb hnf q => by
  rw [q, hT] at hb; injection hb with hb; subst hb; exact hnf ts hdT
 unfold setFlight
 refine wpAny_bind (wpAny_field he hd h1 ?_)
 rw [if_pos (show (Value.ref T != Value.none) = true from by simp)]
 refine wpAny_setField hT hdT hsz3 (h _ (fun b o hbo => (other b fun q => by rw [q, hnT] at hbo; cases hbo).trans (hkb b o hbo))
  (hl.of_keeps fun b o hb hnf => ⟨o, (other b (noRecord b o hb hnf)).trans hb, rfl⟩) ?_ fun b o hb hnf => (other b (noRecord b o hb hnf)).trans hb)
 exact ⟨oe, vs, T, _, _, (other e (Ne.symm hTe)).trans he, hcls, hd, h1, hnT, hTe, Heap.get?_update_self _ hT (Obj.isFreed_of_fields (Obj.data_mapFields hdT _)), Obj.data_mapFields hdT _, by simp [hsz3]⟩
theorem wpAny_passOn_anyW {base : Heap} {l : List Env} {e : Addr} {cls a0 fl : Value} {env : Env} {α : Type} {what : String} {Q : α → Shared → Prop}
  (hkb : base.StaysIn s.heap) (hl : s.heap.FunFrames base l) (ht : s.heap.TracedAtW base e cls a0 fl)
  (h : ∀ h', base.StaysIn h' → h'.FunFrames base l → h'.TracedAtW base e cls a0 (env.frame.elim .none fun f => rawInt f) → (∀ b o, s.heap.get? b = some o → (∀ vs, o.data ≠ .fields vs) → h'.get? b = some o) → E (.ref e) { s with heap := h' }) :
  wpAny M A (PySem.passOn what (.ref e) env : Sem α) Q E s := by
 obtain ⟨oe, vs, T, oT, ts, he, hcls, hd, h1, r⟩ := id ht
 unfold PySem.passOn
 refine wpAny_bind (wpAny_field he hd h1 ?_)
 rw [if_neg (show ¬ ((Value.ref T == Value.none) = true) from by simp)]
 exact wpAny_bind (wpAny_setFlight_anyW hkb hl ht fun h' k1 k2 k3 k4 => wpAny_throw (h h' k1 k2 k3 k4))
end
structure FlyG (P : Program) (w : World) (stack : List Env) (ch : List Addr) (H : Hp) (s : Shared) (e : Addr) (cls : Value) (H' : Hp) (s' : Shared) : Prop where
 os : s'.os = s.os
 bare : AllBare s'.gens
 un : Un (frs stack) ch H H' s.heap s'.heap
 hok : HOk P w H' s'.heap
 fly : ∃ B a0 fl, (B.StaysIn s'.heap ∧ B.get? e = none ∧ s'.heap.FunFrames B stack ∧ s'.heap.TracedAtW B e cls a0 fl) ∧ (∀ b o, s.heap.get? b = some o → H b = none → b ∉ frs stack → b ∉ ch → B.get? b = some o) ∧ (∀ b o, s.heap.get? b = some o → b ∉ frs stack → b ∉ ch → ∃ o', B.get? b = some o') ∧ ∀ b u, H' b = some u → ∃ o, B.get? b = some o
noncomputable def ChOk (X : Cx) (pins : List (Addr × Obj)) (ch : List Addr) : Prop := ∀ b ∈ ch, (b ∈ X.ex ∨ X.s₀.heap.objs.size ≤ b) ∧ b ≠ X.env.locals ∧ (∀ x c, X.env.cells.lookup x = some c → c ≠ b) ∧ ∀ p ∈ X.pn ++ pins, p.1 ≠ b
noncomputable def LandG (X : Cx) (E : XK) : Value → Shared → Prop := fun v s' => ∃ pins σ H s ch e cls H', v = .ref e ∧ Inv X pins σ H s ∧ ChOk X pins ch ∧ FlyG X.prog X.w X.stack ch H s e cls H' s' ∧ E cls none H'
theorem Fly.g {P : Program} {w : World} {l : List Env} {H : Hp} {s : Shared} {e : Addr} {cls : Value} {H' : Hp} {s' : Shared} (F : Fly P w l H s e cls H' s') : FlyG P w l [] H s e cls H' s' := by
 obtain ⟨B, a0, hfl, g1, g2, g3⟩ := F.fly
 exact ⟨F.os, F.bare, F.un, F.hok, B, a0, .none, ⟨hfl.1, hfl.2.1, hfl.2.2.1, hfl.2.2.2.at⟩, fun b o q n hb _ => g1 b o q n hb, fun b o q hb _ => g2 b o q hb, g3⟩
theorem passG {X : Cx} {E : XK} : Passes (CX1 X.prog X.w) (X.wish (LandG X E)) E := by
 intro pins σ H s e s' I h
 obtain ⟨a, cls, H', rfl, F, q⟩ := h
 exact ⟨pins, σ, H, s, [], a, cls, H', rfl, I.unwish, fun b z => (nomatch z), F.g, q⟩
section
variable {P : Program} {w : World} {stack : List Env} {ch : List Addr} {H H' : Hp} {s s' : Shared} {e : Addr} {cls : Value}
theorem FlyG.on (F : FlyG P w stack ch H s e cls H' s') {B : Heap} {a0 fl : Value} (hl : s'.heap.FunFrames B stack) (hB0 : B.StaysIn s'.heap) (g1 : ∀ b o, s.heap.get? b = some o → H b = none → b ∉ frs stack → b ∉ ch → B.get? b = some o) (g2 : ∀ b o, s.heap.get? b = some o → b ∉ frs stack → b ∉ ch → ∃ o', B.get? b = some o') (g3 : ∀ b u, H' b = some u → ∃ o, B.get? b = some o)
  {h5 : Heap} (hf : B.StaysIn h5 ∧ B.get? e = none ∧ h5.FunFrames B stack ∧ h5.TracedAtW B e cls a0 fl) (hu : s'.heap.UpToSlots h5) : FlyG P w stack ch H s e cls H' { s' with heap := h5 } := by
 have kS : ∀ b o, s'.heap.get? b = some o → b ∈ frs stack → ∃ sl, h5.get? b = some { o with slots := sl } := fun b o q hb => hu b o q (by
  obtain ⟨_, o', ho', hd⟩ := hl.mem hb
  rw [q] at ho'; cases ho'; exact hd)
 refine ⟨F.os, F.bare, ⟨fun b o q n hb hc => hf.1 b o (g1 b o q n hb hc), fun b o q n hb hc => ?_, F.un.free, fun b o q hc => ?_, F.un.tups, F.un.frzs, F.un.tbls⟩, F.hok.tracked fun b u o q z => ?_, B, a0, fl, hf, g1, g2, g3⟩
 ·obtain ⟨sl, e2⟩ := F.un.slot b o q n hb hc
  obtain ⟨sl', e3⟩ := kS b _ e2 hb
  exact ⟨sl', e3⟩
 ·by_cases hm : b ∈ frs stack
  ·obtain ⟨o2, e2⟩ := F.un.there b o q hc
   obtain ⟨sl, e3⟩ := kS b o2 e2 hm; exact ⟨_, e3⟩
  ·obtain ⟨o2, e2⟩ := g2 b o q hm hc
   exact ⟨o2, hf.1 b o2 e2⟩
 ·obtain ⟨o', e1⟩ := g3 b u q
  have := hB0 b o' e1
  rw [z] at this; cases this
  exact hf.1 b _ e1
end
theorem noteG {Y : Cx} {E : XK} {v : Value} {s' : Shared} {env0 : Env} {out0 : List Env} {L : Addr} (hs : Y.stack = env0 :: out0) (hf0 : env0.frame = some L) (hf : Y.env.frame = some L) (h : LandG Y E v s') {Q : Unit → Shared → Prop} {E' : Value → Shared → Prop}
  (k : ∀ s'', LandG Y E v s'' → Q () s'') : wpAny (model Y.prog Y.w) Y.A (noteFrame v Y.env) Q E' s' := by
 obtain ⟨pins, σ, H, s, ch, e, cls, H', rfl, I, hch, F, qE⟩ := h
 obtain ⟨B, a0, fl, ⟨f1, f2, f3, f4⟩, g1, g2, g3⟩ := F.fly
 have hfr := I.ok.frames
 have f3' := f3
 rw [hs] at hfr f3'
 rw [noteFrame_frame (hf.trans hf0.symm)]
 refine wpAny_noteFrame_anyW hfr f3' hf0 f4 f1 f2 fun h' hN => k _ ?_
 obtain ⟨k1, k2, k3, k4⟩ := hN
 exact ⟨pins, σ, H, s, ch, e, cls, H', rfl, I, hch, F.on f3 f1 g1 g2 g3 ⟨k1, f2, by rw [hs]; exact k2, k3⟩ k4, qE⟩
theorem LandG.leaves {P : Program} {w : World} {K : PySem.W.Frag} {mg : Str → Option Value} {base : Heap} {N : List Str} {qual : Str} {scope : Scope} {f : Addr} {cd : Value} {A : Around} {outer : List Env} {s0 : Shared} {H0 : Hp} {E : XK} {v : Value} {s' : Shared}
  (h : LandG (cxOf (CX1 P w) P w K mg base N qual scope f cd A outer s0 H0 E) E v s') : (cxOf (CX1 P w) P w K mg base N qual scope f cd A outer s0 H0 E).xe v s' := by
 generalize hX : cxOf (CX1 P w) P w K mg base N qual scope f cd A outer s0 H0 E = X at h
 have e1 : X.stack = X.env :: X.outer := by subst hX; rfl
 have e2 : X.env.frame = some X.env.locals := by subst hX; rfl
 have e3 : X.ex = [] := by subst hX; rfl
 have e4 : X.xe = fun e s' => wpAny (model X.prog X.w) X.A (leaving X.env e) (fun _ s'' => CX1 X.prog X.w X.outer X.H₀ X.s₀ E e s'') (fun e' s'' => CX1 X.prog X.w X.outer X.H₀ X.s₀ E e' s'') s' := by subst hX; rfl
 clear hX
 rw [e4]
 obtain ⟨pins, σ, H, s, ch, e, cls, H', rfl, I, hch, F, qE⟩ := h
 have J : Inv X pins σ H' s' := I.call' F.os F.un F.hok F.bare hch
 obtain ⟨B, a0, fl, ⟨f1, f2, f3, f4⟩, g1, g2, g3⟩ := F.fly
 have hfr := I.ok.frames
 have f3' := f3
 rw [e1] at hfr f3'
 show wpAny _ _ (leaving X.env (.ref e)) _ _ s'
 unfold leaving
 refine wpAny_bind (wpAny_noteFrame_anyW hfr f3' e2 f4 f1 f2 fun h4 hN => ?_)
 obtain ⟨k1, k2, k3, k4⟩ := hN
 refine wpAny_setFlight_anyW k1 k2 k3 fun h5 m1 m2 m3 m4 => ?_
 have hu : s'.heap.UpToSlots h5 := (show s'.heap.UpToSlots h4 from k4).trans fun b o q hn => ⟨o.slots, m4 b o q hn⟩
 refine ⟨e, cls, H', rfl, ?_, qE⟩
 have nex : ∀ b, b ∉ X.ex := fun b hb => by rw [e3] at hb; cases hb
 have nch : ∀ b o, X.s₀.heap.get? b = some o → b ∉ ch := fun b o q hb => by
  rcases (hch b hb).1 with z | z
  ·exact nex b z
  ·exact absurd (Nat.lt_of_lt_of_le (Heap.lt_size q) z) (Nat.lt_irrefl _)
 have up : ∀ {b : Addr}, b ∈ X.fs → b ∈ frs X.stack := fun hb => by rw [e1]; exact frs_cons hb
 have kS : ∀ b o, s'.heap.get? b = some o → b ∈ frs X.stack → ∃ sl, h5.get? b = some { o with slots := sl } := fun b o q hb => hu b o q (by
  obtain ⟨_, o', ho', hd⟩ := f3.mem hb
  rw [q] at ho'; cases ho'; exact hd)
 have G1 : ∀ b o, X.s₀.heap.get? b = some o → X.H₀ b = none → b ∉ frs X.outer → B.get? b = some o := fun b o q n hb =>
  g1 b o (I.base.keep b o q n hb (nex b)) (I.base.free b o q n (nex b)) (I.notOwn q hb) (nch b o q)
 have G2 : ∀ b o, X.s₀.heap.get? b = some o → b ∉ frs X.outer → ∃ o', B.get? b = some o' := fun b o q hb => by
  obtain ⟨o', e5⟩ := I.base.there b o q (nex b)
  exact g2 b o' e5 (I.notOwn q hb) (nch b o q)
 refine ⟨F.os.trans I.os, F.bare, ⟨fun b o q n hb _ => m1 b o (G1 b o q n hb), fun b o q n hb _ => ?_, fun b o q n _ => J.base.free b o q n (nex b), fun b o q _ => ?_, J.base.tups, J.base.frzs, J.base.tbls⟩, F.hok.tracked fun b u o q z => ?_, B, a0, ⟨m1, f2, ?_, m3⟩, G1, G2, g3⟩
 ·obtain ⟨sl, e5⟩ := J.base.slot b o q n hb (nex b)
  obtain ⟨sl', e6⟩ := kS b _ e5 (up hb)
  exact ⟨sl', e6⟩
 ·by_cases hm : b ∈ frs X.stack
  ·obtain ⟨o', e5⟩ := J.base.there b o q (nex b)
   obtain ⟨sl, e6⟩ := kS b o' e5 hm; exact ⟨_, e6⟩
  ·obtain ⟨o', e5⟩ := G2 b o q fun z => hm (up z)
   exact ⟨o', m1 b o' e5⟩
 ·obtain ⟨o', e5⟩ := g3 b u q
  have := f1 b o' e5
  rw [z] at this; cases this
  exact m1 b _ e5
 ·exact m2.2.2
end L2
namespace L2
open PySem PySem.Spec PyProof.Rows
noncomputable def PBx (Y : Cx) (tail : (Unit → Sem Fin) → Sem Fin) (r : TC) : Prop := ∀ (pins : List (Addr × Obj)) (s : Shared) (σ : St) (H : Hp) (Q : St → Hp → Prop) (Q' : Fin → Shared → Prop) (EE : Value → Shared → Prop) (k : Unit → Sem Fin), (∀ e s', Y.xe e s' → EE e s') → Inv Y pins σ H s → r σ H Q →
 (∀ σ' H' s', Inv Y pins σ' H' s' → Q σ' H' → wpAny (model Y.prog Y.w) Y.A (k ()) Q' EE s') → wpAny (model Y.prog Y.w) Y.A (tail k) Q' EE s
theorem pb_emitX {Y : Cx} {elt : Expr} {te : TE} {l : Addr} (he : PE Y elt te) : PBx Y (tailEmit elt (.ref l) Y.env) (tEmit l te) := by
 intro pins s σ H Q Q' EE k hx I h hk
 refine wpAny_bind (wpAny_bind (wpAny_mono (he pins s σ H _ I h) (fun v s1 ⟨x, H1, I1, r1, q1⟩ => ?_) hx))
 obtain ⟨xs, e, hz, q⟩ := q1
 refine wpAny_bind (wpAny_mono (mt_append pins s1 σ H1 (.ref l) [x] (.ref l) [v] (fun _ H2 => Q σ H2) I1 rfl (.cons r1 .nil) ⟨l, xs, x, rfl, rfl, e, hz, q⟩) (fun u s2 ⟨y, H2, I2, r2, q2⟩ => ?_) hx)
 exact wpAny_pure (hk σ H2 s2 I2 q2)
section
variable {Y : Cx}
theorem comp_loopX {E : XK} {env0 : Env} {out0 : List Env} {L : Addr} {elt tg iter : Expr} {gens : List Comprehension} {scope : Scope} {pos : Pos} {d : Nat} {ifs : List Expr} {it l : Addr} {tail : (Unit → Sem Fin) → Sem Fin} {fp : List Addr} {tn : Nat → Heap → Prop} {J : It} {g : TG} {tt : TT} {tb : TC} {pins : List (Addr × Obj)} {σ : St} {H : Hp} {s : Shared} {Q : St → Hp → Prop}
  (hxe : ∀ e s', Y.xe e s' → LandG Y E e s') (hs : Y.stack = env0 :: out0) (hf0 : env0.frame = some L) (hf : Y.env.frame = some L) (hc : Y.calm = true) (heq : compTurn (.ListComp elt gens scope pos) d (.ref it) (.ref l) Y.env = turnOf (.ListComp elt gens scope pos) d (.ref it) (.ref l) Y.env tg iter ifs tail) (hg : PG Y tg g) (ht : PTs Y ifs tt) (hb : PBx Y tail tb)
  (I : Inv Y pins σ H s) (T : Turn Y.prog Y.w Y.K tg J fp it tn) (st : tn 0 s.heap) (f2 : ∀ b ∈ fp, FpOk Y pins H b) (h : tForJ J g (tBodyC tt tb) (eC Q) σ H) :
  codeAny (model Y.prog Y.w) Y.A (.compLoop (.ListComp elt gens scope pos) d (.ref it) (.ref l) Y.env) (fun r s' => (r = .ok .next ∧ ∃ σ' H', Inv Y pins σ' H' s' ∧ Q σ' H') ∨ ∃ v, r = .error v ∧ LandG Y E v s') s := by
 obtain ⟨W, ⟨m0, w0⟩, turn⟩ := h
 have stat : ∀ {H' : Hp}, (∀ b ∈ fp, H' b = none) → ∀ b ∈ fp, FpOk Y pins H' b := fun hn b hb => ⟨hn b hb, (f2 b hb).2⟩
 refine codeAny_loop rfl (fun n s' => ∃ i σ' H', Inv Y pins σ' H' s' ∧ tn i s'.heap ∧ (∀ b ∈ fp, H' b = none) ∧ W i n σ' H') (fun n s3 hI => ?_) m0 ⟨0, σ, H, I, st, fun b hb => (f2 b hb).1, w0⟩
 obtain ⟨i, σ3, H3, I3, st3, fr3, w3⟩ := hI
 show wpAny _ Y.A ((compTurn (.ListComp elt gens scope pos) d (.ref it) (.ref l) Y.env).onRaise (fun x => do noteFrame x Y.env; theTreesLotGoes x)) _ _ s3
 refine wpAny_noted ?_
 rw [heq]
 unfold turnOf
 have hx : ∀ e s', Y.xe e s' → notedBy (model Y.prog Y.w) Y.A Y.env (fun e s' => (Except.error e = (Except.ok Flow.next : Result) ∧ ∃ σ' H', Inv Y pins σ' H' s' ∧ Q σ' H') ∨ ∃ v, (Except.error e : Result) = .error v ∧ LandG Y E v s') e s' := fun e s' z =>
  noteG hs hf0 hf (hxe e s' z) fun s'' z' => .inr ⟨e, rfl, z'⟩
 refine wpAny_bind (wpAny_standAt (wpAny_bind ?_))
 rcases turn i n σ3 H3 w3 with ⟨stop, qn⟩ | ⟨go, N, hN, step⟩
 ·refine thn (T.done Y rfl rfl rfl hc i pins s3 σ3 H3 _ I3 (stat fr3) st3 stop) fun r s4 ⟨hr, I4⟩ => ?_
  subst hr
  exact wpAny_pure (.inl ⟨rfl, σ3, H3, I4, qn⟩)
 ·refine thn (T.item Y rfl rfl rfl hc i pins s3 σ3 H3 _ I3 (stat fr3) st3 go) fun r s4 ⟨u, hr, h4⟩ => ?_
  subst hr
  refine wpAny_bind (thn h4 fun _ s5 ⟨x, H5, I5, r5, y5, st5, fr5⟩ => ?_)
  have I5' := I5.pinned (stat fr5) (T.obj _ _ st5)
  refine wpAny_bind (wpAny_mono (hg _ s5 σ3 H5 x u _ I5' r5 (step x H5 y5)) (fun _ s6 ⟨σ6, H6, I6, q6⟩ => ?_) hx)
  refine wpAny_bind (wpAny_mono (ht _ s6 σ6 H6 _ I6 q6) (fun ok s7 ⟨H7, I7, q7⟩ => ?_) hx)
  have again : ∀ {σ7 : St} {H7 : Hp} {s7 : Shared}, Inv Y (pins ++ pinsAt fp s5.heap) σ7 H7 s7 → N σ7 H7 → ∃ m, m < n ∧ ∃ i σ' H', Inv Y pins σ' H' s7 ∧ tn i s7.heap ∧ (∀ b ∈ fp, H' b = none) ∧ W i m σ' H' := fun {σ7 H7 s7} I7 n7 => by
   obtain ⟨m', hm, w7⟩ := hN σ7 H7 n7
   refine ⟨m', hm, i + 1, σ7, H7, I7.unpinned, T.keep _ _ _ st5 fun b hb o e => (I7.pin (b, o) (List.mem_append_right _ (List.mem_append_right _ (mem_pinsAt hb e)))).1, fun b hb => ?_, w7⟩
   obtain ⟨o, e, d⟩ := T.obj _ _ st5 b hb
   exact (I7.pin (b, o) (List.mem_append_right _ (List.mem_append_right _ (mem_pinsAt hb e)))).2.1
  cases ok with
  | false =>
   rw [if_neg Bool.false_ne_true] at q7 ⊢
   exact wpAny_pure ⟨rfl, again I7 q7⟩
  | true =>
   rw [if_pos rfl] at q7 ⊢
   exact hb _ s7 σ6 H7 _ _ _ _ hx I7 q7 fun σ8 H8 s8 I8 q8 => wpAny_pure ⟨rfl, again I8 q8⟩
end
theorem funFrames_of {h h' B B' : Heap} : ∀ {l : List Env}, h.FunFrames B l → (∀ b ∈ frs l, h'.get? b = h.get? b ∧ (B.get? b = none → B'.get? b = none)) → h'.FunFrames B' l
 | [], _, _ => trivial
 | env :: l, ⟨k, ⟨L, o, e1, e2, e3, e4⟩, r⟩, hh => by
  have hm : L ∈ frs (env :: l) := List.mem_filterMap.mpr ⟨env, List.mem_cons_self, e1⟩
  exact ⟨k, ⟨L, o, e1, (hh L hm).2 e2, ((hh L hm).1).trans e3, e4⟩, funFrames_of r fun b hb => hh b (frs_cons hb)⟩
noncomputable abbrev compCxE (X : Cx) (N : List Str) (scope : Scope) (Z : CompZ) (E : XK) : Cx := (compCx X N scope Z).wish (LandG (compCx X N scope Z) E)
section
variable {X : Cx} {pins : List (Addr × Obj)} {σ : St} {H2 : Hp} {s2 : Shared} {scope : Scope} {N : List Str} {fp : List Addr} {cl : List (Str × Addr)} {E : XK}
theorem comp_err {C : Addr} {v : Value} {s' : Shared} {pl : List (Addr × Obj)} {use : Option (Value → Sem Unit)} {Q : Value → Shared → Prop} {acc : Value} (I2 : Inv X pins σ H2 s2) (f2 : ∀ b ∈ fp, FpOk X pins H2 b) (hC : C = s2.heap.objs.size + 1) (hX : ∀ v s', LandG X E v s' → X.xe v s')
  (h : LandG (compCx X N scope ⟨cl, C, s2, H2, fp, pl⟩) E v s') : compPost (model X.prog X.w) X.A X.xe use Q acc C (.error v) s' := by
 obtain ⟨pins', σ', H, s, ch, e, cls, H', rfl, I, hch, F, qE⟩ := h
 have J := I.call' (pins := pins') F.os F.un F.hok F.bare hch
 obtain ⟨B, a0, fl, ⟨f1, f2', f3, f4⟩, g1, g2, g3⟩ := F.fly
 obtain ⟨m, hm, _⟩ := J.loc
 have hm' : s'.heap.Ns C m := hm
 suffices hh : ∃ m, s'.heap.Ns C m ∧ ∀ h', Heap.SameBut C s'.heap h' → ∀ cenv : Env, cenv.locals = C → wpAny (model X.prog X.w) X.A (PySem.passOn "comprehension.variables-let-go" (.ref e) cenv : Sem Value) (fun _ _ => False) X.xe { s' with heap := h' } by
  cases use <;> exact hh
 refine ⟨m, hm', fun h' hsb cenv _ => ?_⟩
 -- what is new since s2
 have nC : ∀ b o, s2.heap.get? b = some o → b ≠ C := fun b o q z => by
  have := Heap.lt_size q
  rw [z, hC] at this; exact Nat.lt_irrefl _ (Nat.lt_of_succ_lt this)
 have nf : C ∉ frs X.stack := fun hb => by
  obtain ⟨_, o, ho, _⟩ := I2.stack.mem hb
  exact nC C o ho rfl
 obtain ⟨oC, es, ep, hoC, hdC, _⟩ := id hm'
 obtain ⟨oe, vs, T, oT, ts, he, hcls, hd, h1, hnT, hTe, hT, hdT, h3⟩ := id f4
 have eC : e ≠ C := fun z => by rw [z, hoC] at he; cases he; rw [hdC] at hd; cases hd
 have TC : T ≠ C := fun z => by rw [z, hoC] at hT; cases hT; rw [hdC] at hdT; cases hdT
 have B' := PySem.W.hideAll B [C]
 have bN : ∀ {b : Addr}, B.get? b = none → (PySem.W.hideAll B [C]).get? b = none := fun {b} q => by
  cases z : (PySem.W.hideAll B [C]).get? b with
  | none => rfl
  | some o => have := PySem.W.of_hideAll _ z; rw [q] at this; cases this
 have bS : ∀ {b : Addr} {o : Obj}, B.get? b = some o → b ≠ C → (PySem.W.hideAll B [C]).get? b = some o := fun {b o} q n => PySem.W.hideAll_get _ q (by simpa using n)
 have bB : ∀ {b : Addr} {o : Obj}, (PySem.W.hideAll B [C]).get? b = some o → B.get? b = some o ∧ b ≠ C := fun {b o} q => ⟨PySem.W.of_hideAll _ q, fun z => by
  rw [PySem.W.hideAll_none [C] (by rw [z]; exact List.mem_singleton.mpr rfl)] at q; cases q⟩
 have k1 : (PySem.W.hideAll B [C]).StaysIn h' := fun b o q => (hsb.2 b (bB q).2).trans (f1 b o (bB q).1)
 have k2 : h'.FunFrames (PySem.W.hideAll B [C]) X.stack := funFrames_of f3 fun b hb => ⟨hsb.2 b fun z => nf (z ▸ hb), bN⟩
 have k3 : h'.TracedAtW (PySem.W.hideAll B [C]) e cls a0 fl := ⟨oe, vs, T, oT, ts, (hsb.2 e eC).trans he, hcls, hd, h1, bN hnT, hTe, (hsb.2 T TC).trans hT, hdT, h3⟩
 have HC : H' C = none := J.free
 have hfpn : ∀ b ∈ fp, ChOk X pins [b] := fun b hb c hc => by
  have : c = b := by simpa using hc
  subst this
  exact ⟨(f2 c hb).2.2.2.1, (f2 c hb).2.1, (f2 c hb).2.2.2.2.1, (f2 c hb).2.2.2.2.2⟩
 have hchX : ChOk X pins fp := fun b hb => hfpn b hb b (List.mem_singleton.mpr rfl)
 have nch : ∀ b o, s2.heap.get? b = some o → b ∉ fp → b ∉ ch := fun b o q n hb => by
  rcases (hch b hb).1 with z | z
  ·exact n z
  ·exact absurd (Nat.lt_of_lt_of_le (Heap.lt_size q) z) (Nat.lt_irrefl _)
 have u0 : Un (frs X.stack) fp H2 H s2.heap s.heap := I.base
 have u1 : Un (frs X.stack) fp H2 H' s2.heap s'.heap := J.base
 have G1 : ∀ b o, s2.heap.get? b = some o → H2 b = none → b ∉ frs X.stack → b ∉ fp → (PySem.W.hideAll B [C]).get? b = some o := fun b o q n hb hc =>
  bS (g1 b o (u0.keep b o q n hb hc) (u0.free b o q n hc) hb (nch b o q hc)) (nC b o q)
 have G2 : ∀ b o, s2.heap.get? b = some o → b ∉ frs X.stack → b ∉ fp → ∃ o', (PySem.W.hideAll B [C]).get? b = some o' := fun b o q hb hc => by
  obtain ⟨o', e1⟩ := u0.there b o q hc
  obtain ⟨o2, e2⟩ := g2 b o' e1 hb (nch b o q hc)
  exact ⟨o2, bS e2 (nC b o q)⟩
 have G3 : ∀ b u, H' b = some u → ∃ o, (PySem.W.hideAll B [C]).get? b = some o := fun b u q => by
  obtain ⟨o, e1⟩ := g3 b u q
  exact ⟨o, bS e1 fun z => by rw [z, HC] at q; cases q⟩
 have F2 : FlyG X.prog X.w X.stack fp H2 s2 e cls H' { s' with heap := h' } := by
  refine ⟨J.os, F.bare, ⟨fun b o q n hb hc => (hsb.2 b (nC b o q)).trans (u1.keep b o q n hb hc), fun b o q n hb hc => ?_, u1.free, fun b o q hc => ?_, u1.tups, u1.frzs, u1.tbls⟩, F.hok.tracked fun b u o q z => (hsb.2 b fun y => by rw [y, HC] at q; cases q).trans z, _, a0, fl, ⟨k1, bN f2', k2, k3⟩, G1, G2, G3⟩
  ·obtain ⟨sl, e1⟩ := u1.slot b o q n hb hc
   exact ⟨sl, (hsb.2 b (nC b o q)).trans e1⟩
  ·obtain ⟨o', e1⟩ := u1.there b o q hc
   exact ⟨o', (hsb.2 b (nC b o q)).trans e1⟩
 refine wpAny_passOn_anyW (s := { s' with heap := h' }) k1 k2 k3 fun h5 m1 m2 m3 m4 => hX _ _ ⟨pins, σ, H2, s2, fp, e, cls, H', rfl, I2, hchX, F2.on (s' := { s' with heap := h' }) k2 k1 G1 G2 G3 ⟨m1, bN f2', m2, m3⟩ fun b o q hn => ⟨o.slots, m4 b o q hn⟩, qE⟩
end
section
variable {X : Cx} {scope : Scope} {loc : List Str} {frees : List (Str × Nat)} {ns : List (Str × NameKind)} {N : List Str} {pos : Pos} {E : XK}
theorem pe_comp1X {env0 : Env} {out0 : List Env} {L : Addr} {elt tg iter : Expr} {ifs : List Expr} {wi : TI} {g : CompZ → TG} {tt : CompZ → TT} {te : CompZ → TE} (ns : List (Str × NameKind)) (N : List Str) (loc : List Str) (frees : List (Str × Nat)) (hst : X.stack = env0 :: out0) (hf0 : env0.frame = some L) (hf : X.env.frame = some L) (hX : ∀ v s', LandG X E v s' → X.xe v s') (hc : X.calm = true) (hi : PI X tg iter wi)
  (hns : X.env.scope.names = ns) (hN : X.N = N) (hk : scope.kind = .function) (ok : CompOk ns N scope frees)
  (hg : ∀ Z, PG (compCxE X (loc ++ frees.map (·.1)) scope Z E) tg (g Z)) (ht : ∀ Z, PTs (compCxE X (loc ++ frees.map (·.1)) scope Z E) ifs (tt Z)) (he : ∀ Z, PE (compCxE X (loc ++ frees.map (·.1)) scope Z E) elt (te Z))
  (hs : ∀ x, foldedSetIterable iter X.env x = pure x := by intro _; rfl) : PE X (.ListComp elt [⟨tg, iter, ifs, 0⟩] scope pos) (tComp1 wi g tt te loc.length frees) := by
 intro pins s σ H Q I h
 rw [eval_ListComp]
 obtain ⟨cl, hclos, hc1, hc2⟩ := clos_ok (env := X.env) (scope := scope) fun x hx hf => by
  refine I.ok.has x.1 ?_
  have := (ok.1 x hx).2.2 hf
  rw [← hns] at this
  exact this
 refine wpAny_comprehension_free (g := ⟨tg, iter, ifs, 0⟩) (gs := []) rfl hs hclos hk (fun x hx hl => (ok.1 x hx).2.1 hl) (thn (hi pins s σ H _ I h) fun v s1 h1 => thn h1 fun itv s2 h2 => ?_)
 obtain ⟨it, fp, tn, J, H2, e2, I2, T, st2, f2, q2⟩ := h2
 subst e2
 refine wpAny_newObj_type (wpAny_newFunctionEnv (fun x hx => (ok.1 x hx).1) (by intro y hy; simp at hy) (fun h₁ hns₁ hsb₁ => ?_) hk)
 dsimp only at hns₁ hsb₁ ⊢
 have hsz : (s2.heap.push { cls := .type "list", dict := none, data := .seq ([] : List Value).toArray }).objs.size = s2.heap.objs.size + 1 := Heap.size_push ..
 generalize hCeq : (s2.heap.push { cls := .type "list", dict := none, data := .seq ([] : List Value).toArray }).objs.size = C at hns₁ hsb₁ hsz ⊢
 have keep : ∀ b o, s2.heap.get? b = some o → h₁.get? b = some o := fun b o e => hsb₁.extBut b o (by rw [hsz]; exact Nat.ne_of_lt (Nat.lt_succ_of_lt (Heap.lt_size e))) (Heap.get?_push_of_some _ (Heap.get?_push_of_some _ e))
 have hacc : h₁.get? s2.heap.objs.size = some { cls := .type "list", dict := none, data := .seq ([] : List Value).toArray } :=
  hsb₁.extBut _ _ (by rw [hsz]; exact Nat.ne_of_lt (Nat.lt_succ_self _)) (Heap.get?_push_of_some _ (Heap.get?_push_size _ rfl))
 have live : ∀ b ∈ fp, ∃ o, s2.heap.get? b = some o := fun b hb => let ⟨o, ho, _⟩ := T.obj _ _ st2 b hb; ⟨o, ho⟩
 have J0 := comp_start (scope := scope) (loc := loc) (frees := frees) (tk := s2.toks + ([] : List (Str × Value)).length) I2 hns hN hk ok f2 live hc1 hc2 hsz ⟨_, hns₁⟩ hacc keep
 have hln : H2 s2.heap.objs.size = none := I2.hok.fresh (Nat.le_refl _)
 have f4 : ∀ b ∈ fp, FpOk (compCx X (loc ++ frees.map (·.1)) scope ⟨cl, C, s2, H2, fp, X.pn ++ pins⟩) [] (upd H2 s2.heap.objs.size (.lst [])) b := fun b hb => by
  obtain ⟨o, ho⟩ := live b hb
  obtain ⟨z0, z1, z2, z3, z4, z5⟩ := f2 b hb
  refine ⟨?_, ?_, fun z => ?_, .inl hb, fun x c e => z4 x c (hc1 x c e), fun p hp => z5 p ?_⟩
  ·rw [upd_ne (Nat.ne_of_lt (Heap.lt_size ho))]; exact z0
  ·show b ≠ C
   rw [hsz]; exact Nat.ne_of_lt (Nat.lt_succ_of_lt (Heap.lt_size ho))
  ·rcases List.mem_cons.mp (I2.stkSub b z) with y | y
   ·exact z1 y
   ·exact z2 y
  ·rcases List.mem_append.mp hp with y | y
   ·exact y
   ·exact absurd y (by simp)
 have q4 := q2 ⟨cl, C, s2, H2, fp, X.pn ++ pins⟩ _ hln
 have L0 := comp_loopX (Y := compCxE X (loc ++ frees.map (·.1)) scope ⟨cl, C, s2, H2, fp, X.pn ++ pins⟩ E) (E := E) (fun e s' z => by
   obtain ⟨pins', σ', H', s', ch, e', cls, H'', e1, I', r⟩ := z
   exact ⟨pins', σ', H', s', ch, e', cls, H'', e1, I'.wish _, r⟩) hst hf0 hf hc (turn_1 elt tg iter ifs scope pos (.ref it) (.ref s2.heap.objs.size) _) (hg _) (ht _) (pb_emitX (he _)) (J0.wish _) T (T.keep _ _ _ st2 fun b _ o e => keep b o e) f4 q4
 refine codeAny_mono (codeAny_compStart_list L0 (T.self _ _ _ _ _ (T.keep _ _ _ st2 fun b _ o e => keep b o e) L0)) fun r s' hr => ?_
 rcases hr with ⟨rfl, σ', H', J', q'⟩ | ⟨v, rfl, hl⟩
 ·obtain ⟨m', hm', _⟩ := J'.loc
  exact ⟨m', hm', fun h' hs' => ⟨.ref s2.heap.objs.size, H', comp_back I2 f2 hsz J'.unwish hs', rfl, q'⟩⟩
 ·refine comp_err (E := E) (cl := cl) (N := loc ++ frees.map (·.1)) (scope := scope) (pl := X.pn ++ pins) I2 f2 hsz hX ?_
  obtain ⟨pins', σ', H', s', ch, e', cls, H'', e1, I', r⟩ := hl
  exact ⟨pins', σ', H', s', ch, e', cls, H'', e1, I'.unwish, r⟩
end
end L2
namespace M54
open PySem L2 PyProof.Rows
theorem split_len (a b : Str) : ∀ r ∈ Txt.split a b, r.length ≤ a.length := by
 intro r hr
 unfold Txt.split at hr
 split at hr
 ·rw [List.mem_singleton.mp hr]; exact Nat.le_refl _
 ·split at hr
  ·rw [List.mem_singleton.mp hr]; exact Nat.le_refl _
  ·unfold Builtin.Str.partsBetween at hr
   obtain ⟨⟨i, j⟩, _, e⟩ := List.mem_map.mp hr
   subst e
   show (a.cps.extract i j).size ≤ a.cps.size
   rw [Array.size_extract]; omega
theorem split_count (a b : Str) : (Txt.split a b).length ≤ a.length + 2 := by
 unfold Txt.split
 split
 ·show 1 ≤ _; omega
 ·split
  ·show 1 ≤ _; omega
  ·exact split_size a b
theorem split_pos (a b : Str) : 1 ≤ (Txt.split a b).length := by
 unfold Txt.split
 split
 ·exact Nat.le_refl _
 ·split
  ·exact Nat.le_refl _
  ·rw [length_partsBetween]; omega
noncomputable def wordsOf (a : Str) : List Str := Txt.split a ","
noncomputable def rowsOf (m a : Str) : List (List Str) := (Txt.split a m).map wordsOf
noncomputable def numI (a : Str) : Int := (intText? a).getD 0
noncomputable def okT (m a : Str) : Bool := (rowsOf m a).all fun r => r.all wr
noncomputable def gridOf (m a : Str) : List (List Int) := (rowsOf m a).map fun r => r.map numI
theorem wr_numI {a : Str} (h : wr a = true) : intText? a = some (numI a) := by
 obtain ⟨n, hn⟩ := wr_int h
 unfold numI
 rw [hn]; rfl
theorem wr_len {a : Str} (h : wr a = true) : a.length ≤ 640 := by
 unfold wr at h
 simp only [Bool.and_eq_true, decide_eq_true_eq] at h
 have h5 := h.2.1
 by_cases hst : Txt.startswith a "-" = true
 ·obtain ⟨ds, e1⟩ := starts_minus hst
  have ef : (fig a).cps.toList = ds := by unfold fig; rw [if_pos hst]; exact cut1 e1
  have k1 : (fig a).length = ds.length := by show (fig a).cps.size = _; rw [← Array.length_toList, ef]
  have k2 : a.length = ds.length + 1 := by show a.cps.size = _; rw [← Array.length_toList, e1]; rfl
  omega
 ·have ef : fig a = a := by unfold fig; rw [if_neg hst]
  rw [ef] at h5; omega
noncomputable def RowsG (H : Hp) (bs : List Addr) (g : List (List Int)) : Prop := Paired (fun b xs => H b = some (.tup (xs.map V.int))) bs g
noncomputable def GridAt (H : Hp) (a : Addr) (g : List (List Int)) : Prop := ∃ bs : List Addr, H a = some (.tup (bs.map V.ref)) ∧ RowsG H bs g
theorem RowsG.ext {H H' : Hp} {bs : List Addr} {g : List (List Int)} (h : RowsG H bs g) (e : Ext H H') : RowsG H' bs g := Paired.mapP h fun _ _ z => e.tup _ _ z
theorem GridAt.ext {H H' : Hp} {a : Addr} {g : List (List Int)} (h : GridAt H a g) (e : Ext H H') : GridAt H' a g := let ⟨bs, h1, h2⟩ := h; ⟨bs, e.tup _ _ h1, h2.ext e⟩
theorem GridAt.same {H H' : Hp} {a : Addr} {g : List (List Int)} (h : GridAt H a g) (s : Same H H') : GridAt H' a g := h.ext s.ext
noncomputable def isStr : V → Bool | .str _ => true | _ => false
theorem ty_str {K : PySem.W.Frag} {H : Hp} {v : V} (k : Kn H 1 v) : ∃ t, TyOf K H v t ∧ PySem.W.kitOne K t (.type "str") = some (isStr v) := by
 cases v with
 | non => exact ⟨_, .non, by kernel_rfl⟩
 | bl b => exact ⟨_, .bl b, by kernel_rfl⟩
 | int i => exact ⟨_, .int i, by kernel_rfl⟩
 | str x => exact ⟨_, .str x, by kernel_rfl⟩
 | ref a =>
  rcases k with ⟨xs, k⟩ | ⟨kvs, k⟩ | ⟨xs, k, hl, hx⟩
  ·exact ⟨_, .lst k, by kernel_rfl⟩
  ·exact ⟨_, .dK k, by kernel_rfl⟩
  ·exact ⟨_, .tup k, by kernel_rfl⟩
 | _ => exact (show False from k).elim
theorem boot_str : bootBuiltins "str" = some (.type "str") := by decide +kernel
structure AtX (P : Program) (w : World) (K : PySem.W.Frag) (mg : Str → Option Value) (base : Heap) (k : Nat) (x : Str) (f : Addr) (fd : FuncData) (ps : List Str) (sp : Sp) : Prop where
 nm : mg x = some (.ref f)
 kp : PySem.W.keepIn K (.ref f) = true
 bd : L2.Binds K fd ps []
 ok : FnOk P w K mg base (CX1 P w) k f fd ps sp
noncomputable def spReadNum (C : Addr) : Sp := fun vs H Q E => ∃ a : Str, vs = [.str a] ∧ a.length ≤ 1000 ∧ (wr a = true → ∀ H', Same H H' → Q (.int (numI a)) H') ∧ (wr a = false → ∀ H', Same H H' → E (.ref C) none H')
noncomputable def spRead (C : Addr) (good : Str → Bool) (what : Str → List (List Int)) : Sp := fun vs H Q E => ∃ v, vs = [v] ∧ Kn H 1 v ∧ (∀ a, v = .str a → a.length ≤ 900 ∧ (good a = true → ∀ p H', Same H H' → GridAt H' p (what a) → Q (.ref p) H') ∧ (good a = false → ∀ H', Same H H' → E (.ref C) none H')) ∧ (isStr v = false → ∀ H', Same H H' → E (.ref C) none H')
noncomputable def spRowsRead (C : Addr) : Sp := fun vs H Q E => ∃ v m, vs = [v, .str m] ∧ (m.length == 0) = false ∧ Kn H 1 v ∧ (∀ a, v = .str a → a.length ≤ 900 ∧ (okT m a = true → ∀ p H', Same H H' → GridAt H' p (gridOf m a) → Q (.ref p) H') ∧ (okT m a = false → ∀ H', Same H H' → E (.ref C) none H')) ∧ (isStr v = false → ∀ H', Same H H' → E (.ref C) none H')
section
variable {P : Program} {w : World} {K : PySem.W.Frag} {mg : Str → Option Value} {base : Heap}
theorem scReadNum : FnScope ["text"] ["text"] (defScope sReadNum) := ⟨rfl, rfl, rfl, by decide +kernel, rfl, by decide +kernel, by decide +kernel⟩
theorem ok_readNum {f g C : Addr} {fd gd : FuncData} (F : Fun K "read_number" "read_number" sReadNum f fd) (T : Txt mg) (a1 : At P w K mg base 1 "is_written_number" g gd ["text"] spWritten) (mC : mg "NoText" = some (.ref C)) (c : ExcC K C) : FnOk P w K mg base (CX1 P w) 2 f fd ["text"] (spReadNum C) := by
 refine F.okX scReadNum (fun vs H Q E h => ?_) (fun cdv A outer s H vs Q E hr h => ?_)
 ·obtain ⟨a, rfl, _⟩ := h; rfl
 ·obtain ⟨a, rfl, ha, q1, q2⟩ := h
  refine ⟨_, pss_cons (ps_if (pt_not (pt_val (pe_call a1.ok hr rfl a1.nm a1.kp a1.bd .nil pass0 (pa_v (pv 0) pa_nil)))) (pss_one (ps_raise (E := E) rfl rfl rfl rfl rfl rfl mC c)) pss_nil) <|
   pss_one (ps_ret (pe_callTy call_int_text rfl T.int boot_int (pa_v (pv 0) pa_nil))), ?_⟩
  refine ⟨_, rfl, a, rfl, ha, fun H1 s1 => ⟨_, rfl, iteB (fun e => ?_) fun e => ?_⟩⟩
  ·exact q2 (by simpa using e) H1 s1
  ·have e' : wr a = true := by simpa using e
   exact ⟨_, rfl, a, _, rfl, wr_numI e', wr_len e', q1 e' H1 s1⟩
theorem landG_wish {X : Cx} {W : Value → Shared → Prop} {E : XK} {v : Value} {s' : Shared} (h : LandG (X.wish W) E v s') : LandG X E v s' := by
 obtain ⟨pins', σ', H', s', ch, e', cls, H'', e1, I', r⟩ := h
 exact ⟨pins', σ', H', s', ch, e', cls, H'', e1, I'.unwish, r⟩
theorem scRowsRead : FnScope ["text", "mark"] ["text", "mark"] (defScope sRowsRead) := ⟨rfl, rfl, rfl, by decide +kernel, rfl, by decide +kernel, by decide +kernel⟩
theorem ndRow : (["row"] : List Str).Nodup := by decide +kernel
theorem ndWord : (["word"] : List Str).Nodup := by decide +kernel
theorem ok_rowsRead {f g C : Addr} {fd gd : FuncData} (F : Fun K "rows_read" "rows_read" sRowsRead f fd) (T : Txt mg) (a1 : AtX P w K mg base 2 "read_number" g gd ["text"] (spReadNum C)) (mC : mg "NoText" = some (.ref C)) (c : ExcC K C) : FnOk P w K mg base (CX1 P w) 3 f fd ["text", "mark"] (spRowsRead C) := by
 refine F.okX scRowsRead (fun vs H Q E h => ?_) (fun cdv A outer s H vs Q E hr h => ?_)
 ·obtain ⟨v, m, rfl, _⟩ := h; rfl
 ·obtain ⟨v, m, rfl, hm0, kn, q1, q2⟩ := h
  refine ⟨_, pss_cons (ps_if (pt_not (pt_val (pe_callB call_isinst rfl T.isinstance boot_isinstance (pa_v (pv 0) (pa_v (pe_bltn (v := .ty "str") rfl T.str boot_str rfl) pa_nil))))) (pss_one (ps_raise (E := E) rfl rfl rfl rfl rfl rfl mC c)) pss_nil) <|
   pss_one (ps_ret (pe_callTy call_tuple_of rfl T.tuple boot_tuple (pa_lc (pe_comp1X (E := E) (defScope sRowsRead).names ["text", "mark"] ["row"] [] rfl rfl rfl (fun _ _ z => LandG.leaves z) rfl
    (pi_list (pe_bm PySem.F.plainAttrs_str PySem.F.slot_str_split PySem.F.type_str_split mt_split (pv 0) (pa_v (pv 1) pa_nil))) rfl rfl rfl (by decide +kernel)
    (fun Z => pg_name (i := 0) ndRow rfl (Or.inl rfl)) (fun Z => pts_nil)
    (fun Z => pe_callTy call_tuple_of rfl T.tuple boot_tuple (pa_lc (pe_comp1X (E := E) [(".0", .local), ("row", .local), ("tuple", .globalImplicit)] ["row"] ["word"] [] rfl rfl rfl (fun _ _ z => landG_wish z) rfl
     (pi_list (pe_bm PySem.F.plainAttrs_str PySem.F.slot_str_split PySem.F.type_str_split mt_split (pv 0) (pa_c pe_str pa_nil))) rfl rfl rfl (by decide +kernel)
     (fun Z2 => pg_name (i := 0) ndWord rfl (Or.inl rfl)) (fun Z2 => pts_nil)
     (fun Z2 => pe_call a1.ok hr rfl a1.nm a1.kp a1.bd .nil passG (pa_v (pv 0) pa_nil))) pa_nil))) pa_nil))), ?_⟩
  obtain ⟨t, ty, k3⟩ := ty_str (K := K) kn
  refine ⟨_, rfl, _, "str", t, _, rfl, ty, k3, _, rfl, ?_⟩
  cases v with
  | str a =>
   obtain ⟨ha, qT, qF⟩ := q1 a rfl
   refine iteF ?_
   have hcnt := split_count a m
   refine ⟨_, rfl, rfl, _, rfl, a, m, rfl, rfl, hm0, by rw [sizeLine_eq]; omega, by have := split_size a m; rw [sizeLine_eq]; omega, fun l0 hl0 => ?_⟩
   have s0 := same_upd (o := .lst ((Txt.split a m).map V.str)) hl0
   refine ⟨l0, rfl, ⟨_, SqL.of upd_same⟩, fun Z l hl => ?_⟩
   have okAll : ∀ i, (∀ r ∈ (Txt.split a m).take i, (wordsOf r).all wr = true) → i = (Txt.split a m).length → okT m a = true := fun i h e => by
    rw [e, List.take_of_length_le (Nat.le_refl _)] at h
    unfold okT rowsOf
    rw [List.all_map, List.all_eq_true]
    exact h
   refine for_list (xs := (Txt.split a m).map V.str) (fun i σ H' => σ.length = 1 ∧ Same (upd H l0 (.lst ((Txt.split a m).map V.str))) H' ∧ (∀ r ∈ (Txt.split a m).take i, (wordsOf r).all wr = true) ∧ ∃ bs : List Addr, H' l = some (.lst (bs.map V.ref)) ∧ RowsG H' bs (((Txt.split a m).take i).map fun r => (wordsOf r).map numI))
    ⟨rfl, same_upd hl, (fun r hr' => by rw [List.take_zero] at hr'; cases hr'), [], by rw [upd_same]; rfl, .nil⟩ (fun i σ H' _ h => SqL.of (h.2.1 _ _ upd_same)) ?_ ?_
   ·rintro i x σ H' hx ⟨hσ, hs, hall, bs, hl', hG⟩
    match σ, hσ with
    | [x0], _ =>
    rw [List.getElem?_map] at hx
    cases hri : (Txt.split a m)[i]? with
    | none => rw [hri] at hx; cases hx
    | some r =>
    rw [hri] at hx; cases hx
    have hrm : r ∈ Txt.split a m := List.mem_of_getElem? hri
    have hrl : r.length ≤ 900 := Nat.le_trans (split_len a m r hrm) ha
    have hil : i < (Txt.split a m).length := (List.getElem?_eq_some_iff.mp hri).1
    have hbl : bs.length ≤ i := by
     have := Paired.length hG
     rw [List.length_map, List.length_take] at this; omega
    have hcw := split_count r ","
    refine body_name ?_
    refine ⟨_, rfl, rfl, r, ",", rfl, rfl, rfl, by rw [sizeLine_eq]; omega, by have := split_size r ","; rw [sizeLine_eq]; omega, fun l2 hl2 => ?_⟩
    have s2 := same_upd (o := .lst ((Txt.split r ",").map V.str)) hl2
    refine ⟨l2, rfl, ⟨_, SqL.of upd_same⟩, fun Z2 l3 hl3 => ?_⟩
    refine for_list (xs := (Txt.split r ",").map V.str) (fun j σ H2 => σ.length = 1 ∧ Same (upd H' l2 (.lst ((Txt.split r ",").map V.str))) H2 ∧ ((Txt.split r ",").take j).all wr = true ∧ H2 l3 = some (.lst (((Txt.split r ",").take j).map fun w => V.int (numI w))))
     ⟨rfl, same_upd hl3, rfl, by rw [upd_same]; rfl⟩ (fun j σ H2 _ h => SqL.of (h.2.1 _ _ upd_same)) ?_ ?_
    ·rintro j y σ H2 hy ⟨hσ2, hs2, hall2, hl3'⟩
     match σ, hσ2 with
     | [y0], _ =>
     rw [List.getElem?_map] at hy
     cases hwj : (Txt.split r ",")[j]? with
     | none => rw [hwj] at hy; cases hy
     | some wd =>
     rw [hwj] at hy; cases hy
     have hwm : wd ∈ Txt.split r "," := List.mem_of_getElem? hwj
     have hwl : wd.length ≤ 900 := Nat.le_trans (split_len r "," wd hwm) hrl
     have hjl : j < (Txt.split r ",").length := (List.getElem?_eq_some_iff.mp hwj).1
     refine body_name ?_
     refine ⟨_, rfl, wd, rfl, by omega, fun hw H3 s3 => ?_, fun hw H3 s3 => ?_⟩
     ·refine ⟨_, s3 _ _ hl3', small1000 (by rw [List.length_map, List.length_take]; omega), rfl, fun b' u e' => ?_, ?_, ?_⟩
      ·rw [upd_ne (ne_of_none e' hl3)]; exact s3 _ _ (hs2 _ _ e')
      ·rw [List.take_succ, hwj, List.all_append, hall2]
       show (true && (wr wd && true)) = true
       rw [hw]; rfl
      ·rw [upd_same, List.take_succ, hwj, List.map_append]; rfl
     ·refine qF ?_ H3 (((s0.trans hs).trans (s2.trans hs2)).trans s3)
      rw [Bool.eq_false_iff]
      intro z
      unfold okT rowsOf at z
      rw [List.all_map, List.all_eq_true] at z
      have := List.all_eq_true.mp (z r hrm) wd hwm
      rw [hw] at this; cases this
    ·rintro σ H2 ⟨_, hs2, hall2, hl3'⟩
     rw [List.length_map, List.take_of_length_le (Nat.le_refl _)] at hall2 hl3'
     refine ⟨l3, _, rfl, .inl ⟨SqL.of hl3', fun t2 ht2 => ?_⟩⟩
     have s4 := same_upd (o := .tup ((Txt.split r ",").map fun w => V.int (numI w))) ht2
     have sA := (s2.trans hs2).trans s4
     have hl4 := sA _ _ hl'
     refine ⟨_, hl4, small1000 (by rw [List.length_map]; omega), rfl, fun b' u e' => ?_, ?_, bs ++ [t2], ?_, ?_⟩
     ·rw [upd_ne (ne_of_none e' hl)]; exact sA _ _ (hs _ _ e')
     ·intro r' hr'
      rw [List.take_succ, hri] at hr'
      rcases List.mem_append.mp hr' with z | z
      ·exact hall r' z
      ·rw [List.mem_singleton.mp z]; exact hall2
     ·rw [upd_same, List.map_append]; rfl
     ·have up : ∀ b xs, (upd H2 t2 (.tup ((Txt.split r ",").map fun w => V.int (numI w)))) b = some (.tup xs) → (upd (upd H2 t2 (.tup ((Txt.split r ",").map fun w => V.int (numI w)))) l (.lst (bs.map V.ref ++ [.ref t2]))) b = some (.tup xs) := fun b xs e => by
       rw [upd_ne (fun z => by rw [z, hl4] at e; cases e)]; exact e
      rw [List.take_succ, hri, List.map_append]
      refine Paired.snoc (Paired.mapP hG fun b xs e => up _ _ (sA _ _ e)) (up _ _ ?_)
      rw [upd_same, List.map_map]; rfl
   ·rintro σ H' ⟨_, hs, hall, bs, hl', hG⟩
    rw [List.length_map] at hall hG
    have hok := okAll _ hall rfl
    rw [List.take_of_length_le (Nat.le_refl _)] at hG
    refine ⟨l, _, rfl, .inl ⟨SqL.of hl', fun a' ha' => ?_⟩⟩
    have s4 := same_upd (o := .tup (bs.map V.ref)) ha'
    refine qT hok a' _ ((s0.trans hs).trans s4) ⟨bs, upd_same, ?_⟩
    have : gridOf m a = (Txt.split a m).map fun r => (wordsOf r).map numI := by unfold gridOf rowsOf; rw [List.map_map]; rfl
    rw [this]
    exact RowsG.ext hG s4.ext
  | _ => exact iteT (q2 rfl H (Same.refl H))
end
end M54
namespace L2
open PySem Srt
noncomputable def upL (ks : List (List Int)) : Bool := decide (ks.Pairwise fun a b => HT.lexLt a b = true)
theorem up_zip : ∀ ks : List (List Int), ((ks.zip (ks.drop 1)).map fun p => HT.lexLt p.1 p.2).all id = upL ks
 | [] => rfl
 | [k] => by simp [upL]
 | a :: b :: ks => by
  have ih := up_zip (b :: ks)
  have e : ((a :: b :: ks).zip ((a :: b :: ks).drop 1)).map (fun p => HT.lexLt p.1 p.2) = HT.lexLt a b :: ((b :: ks).zip ((b :: ks).drop 1)).map fun p => HT.lexLt p.1 p.2 := rfl
  rw [e, List.all_cons, ih]
  unfold upL
  rw [Bool.eq_iff_iff, Bool.and_eq_true, decide_eq_true_eq, decide_eq_true_eq]
  show HT.lexLt a b = true ∧ _ ↔ _
  rw [List.pairwise_cons (a := a)]
  constructor
  ·rintro ⟨h1, h2⟩
   refine ⟨fun x hx => ?_, h2⟩
   rcases List.mem_cons.mp hx with rfl | hx
   ·exact h1
   ·exact lex_tr h1 ((List.pairwise_cons.mp h2).1 x hx)
  ·rintro ⟨h1, h2⟩
   exact ⟨h1 b List.mem_cons_self, h2⟩
end L2
namespace L2
open PySem PySem.Spec PyProof.Rows
section
variable {X : Cx} {pins : List (Addr × Obj)} {σ : St} {H : Hp} {s : Shared}
end
section
variable {X : Cx}
end
end L2
namespace L2
open PySem PySem.Spec PyProof.Rows
section
variable {X : Cx}
end
end L2
namespace M54
open PySem L2 PyProof.Rows
noncomputable def clV (H : Hp) (v : V) : Bool := match tupOf H v with | some [a, b, c] => numIn 0 3 a && (numIn 0 5 b && numIn 1 20 c) | _ => false
noncomputable def k2V (H : Hp) (v : V) : List Int := match tupOf H v with | some [.int a, .int b, _] => [a, b] | _ => []
noncomputable def clsV (H : Hp) (v : V) : Bool := match tupOf H v with | some xs => decide (1 ≤ xs.length) && decide (xs.length ≤ 12) && xs.all (clV H) && upL (xs.map (k2V H)) | none => false
theorem clV_same {H H' : Hp} (s : Same H H') {v : V} (k : Kn H 1 v) : clV H' v = clV H v := by unfold clV; rw [s.tupOf k]
theorem numIn_int {lo hi : Int} {v : V} (h : numIn lo hi v = true) : ∃ i, v = .int i := by cases v <;> first | exact ⟨_, rfl⟩ | cases h
theorem clV_at {H : Hp} {v : V} (h : clV H v = true) : ∃ (b : Addr) (c : C3), v = .ref b ∧ H b = some (.tup [.int c.1, .int c.2.1, .int c.2.2]) ∧ k2V H v = [c.1, c.2.1] := by
 unfold clV at h
 cases e : tupOf H v with
 | none => rw [e] at h; cases h
 | some xs =>
  rw [e] at h
  match xs, e, h with
  | [a, b, c], e, h =>
   have h' : (numIn 0 3 a && (numIn 0 5 b && numIn 1 20 c)) = true := h
   rw [Bool.and_eq_true, Bool.and_eq_true] at h'
   obtain ⟨i, rfl⟩ := numIn_int h'.1
   obtain ⟨j, rfl⟩ := numIn_int h'.2.1
   obtain ⟨m, rfl⟩ := numIn_int h'.2.2
   obtain ⟨p, rfl, hp⟩ := of_tupOf e
   exact ⟨p, (i, j, m), rfl, hp, by unfold k2V; rw [e]⟩
  | [], _, h => cases h
  | [_], _, h => cases h
  | [_, _], _, h => cases h
  | _ :: _ :: _ :: _ :: _, _, h => cases h
theorem clV_all {H : Hp} : ∀ {xs : List V}, xs.all (clV H) = true → ∃ (bs : List Addr) (cl : List C3), xs = bs.map V.ref ∧ ClP H bs cl ∧ xs.map (k2V H) = (cl.map key2).map fun c => [c.1, c.2]
 | [], _ => ⟨[], [], rfl, .nil, rfl⟩
 | x :: xs, h => by
  rw [List.all_cons, Bool.and_eq_true] at h
  obtain ⟨b, c, rfl, hb, hk⟩ := clV_at h.1
  obtain ⟨bs, cl, rfl, hC, hk2⟩ := clV_all h.2
  exact ⟨b :: bs, c :: cl, rfl, .cons hb hC, by rw [List.map_cons, hk, hk2]; rfl⟩
noncomputable def r2 (c : Int × Int) : List Int := [c.1, c.2]
noncomputable def spRising : Sp := fun vs H Q _ => ∃ l ps prs, vs = [.ref l] ∧ H l = some (.lst (ps.map V.ref)) ∧ PlAt H ps prs ∧ 1 ≤ prs.length ∧ prs.length ≤ 100 ∧ ∀ H', Same H H' → Q (.bl (upL (prs.map r2))) H'
noncomputable def spClaim : Sp := fun vs H Q _ => ∃ v, vs = [v] ∧ Kn H 2 v ∧ Q (.bl (clV H v)) H
noncomputable def spClaims : Sp := fun vs H Q _ => ∃ v, vs = [v] ∧ Kn H 3 v ∧ ∀ H', Same H H' → Q (.bl (clsV H v)) H'
section
variable {P : Program} {w : World} {K : PySem.W.Frag} {mg : Str → Option Value} {base : Heap}
theorem cutRef (ps : List Addr) (h : 1 ≤ ps.length) : cutV (ps.map V.ref) (some 1) none = (ps.drop 1).map V.ref := by
 have e1 : HT.sIx (ps.map V.ref).length 0 (some 1) = min 1 (ps.map V.ref).length := HT.sIx_nat _ _ 1
 have e2 : HT.sIx (ps.map V.ref).length (ps.map V.ref).length none = (ps.map V.ref).length := rfl
 unfold cutV
 rw [e1, e2, List.length_map, show min 1 ps.length = 1 by omega, List.take_of_length_le (by rw [List.length_drop, List.length_map]; omega), List.map_drop]
theorem PlAt.get2 {H : Hp} : ∀ {ps : List Addr} {cs : List (Int × Int)} {i : Nat} {p : Addr}, PlAt H ps cs → ps[i]? = some p → ∃ c, cs[i]? = some c ∧ H p = some (.tup [.int c.1, .int c.2])
 | _, _, 0, _, .cons r _, h => by cases h; exact ⟨_, rfl, r⟩
 | _, _, i + 1, _, .cons _ t, h => PlAt.get2 (i := i) t (by simpa using h)
theorem scRising : FnScope ["things"] ["things"] (defScope sRising) := ⟨rfl, rfl, rfl, by decide +kernel, rfl, by decide +kernel, by decide +kernel⟩
theorem ndRO : (["one", "other"] : List Str).Nodup := by decide +kernel
theorem ok_rising {f : Addr} {fd : FuncData} (F : Fun K "is_rising" "is_rising" sRising f fd) (T : Txt mg) : FnOk P w K mg base CX0 1 f fd ["things"] spRising := by
 refine F.ok scRising (fun vs H Q E h => ?_) (fun cdv A outer s H vs Q E hr h => ?_)
 ·obtain ⟨l, ps, prs, rfl, _⟩ := h; rfl
 ·obtain ⟨l, ps, prs, rfl, hl, hP, h1, h100, q⟩ := h
  have hlen : ps.length = prs.length := Paired.length hP
  refine ⟨_, pss_one (ps_ret (pe_callB (call_all rfl) rfl T.all boot_all (pa_lc (pe_comp1 (defScope sRising).names ["things"] ["one", "other"] [] rfl (pi_zip2 kL_ok rfl T.zip (pa_v (pv 0) (pa_s (pe_slice sl_list (pv 0) (po_some pe_int) po_none) pa_nil))) rfl rfl rfl (by decide +kernel)
   (fun Z => pg_tup rfl (pgs_cons (pg_name (i := 0) ndRO rfl (Or.inl rfl)) (pgs_cons (pg_name (i := 1) ndRO rfl (Or.inl rfl)) pgs_nil))) (fun Z => pts_nil) (fun Z => pe_cmpR (op_ltT (Nat.lt_of_succ_lt (hu_of hr))) (pv 0) (pv 1) (nomark _))) pa_nil))), ?_⟩
  refine ⟨_, rfl, _, rfl, _, rfl, l, _, rfl, SqL.of hl, fun t ht => ?_⟩
  rw [cutRef ps (by omega)]
  have s1 := same_upd (o := .lst ((ps.drop 1).map V.ref)) ht
  refine ⟨l, t, ps.map V.ref, (ps.drop 1).map V.ref, rfl, SqL.of (s1 _ _ hl), SqL.of upd_same, fun Z r hr' => ?_⟩
  have sH : Same H (upd H t (.lst ((ps.drop 1).map V.ref))) := s1
  generalize hbs : (((prs.map r2).zip ((prs.map r2).drop 1)).map fun p => HT.lexLt p.1 p.2) = bs
  have hbl : bs.length = ps.length - 1 := by rw [← hbs, List.length_map, List.length_zip, List.length_drop, List.length_map]; omega
  refine for_zip2 (xs := ps.map V.ref) (ys := (ps.drop 1).map V.ref) (by rw [List.length_map, List.length_map, List.length_drop]; omega) (fun i σ H' => σ.length = 2 ∧ Same (upd H t (.lst ((ps.drop 1).map V.ref))) H' ∧ H' r = some (.lst ((bs.take i).map V.bl))) ⟨rfl, same_upd hr', by rw [upd_same]; rfl⟩
   (fun i σ H' h => ⟨SqL.of (h.2.1 _ _ (s1 _ _ hl)), SqL.of (h.2.1 _ _ upd_same)⟩) ?_ ?_
  ·rintro i x y p3 σ H' hx hy ⟨hσ, hs, hl'⟩ hp3
   match σ, hσ with
   | [x0, x1], _ =>
   rw [List.getElem?_map] at hx hy
   cases hb : ps[i]? with
   | none => rw [hb] at hx; cases hx
   | some b =>
   cases hb2 : (ps.drop 1)[i]? with
   | none => rw [hb2] at hy; cases hy
   | some b2 =>
   rw [hb] at hx; cases hx
   rw [hb2] at hy; cases hy
   have hb2' : ps[i + 1]? = some b2 := by rw [List.getElem?_drop] at hb2; rw [show i + 1 = 1 + i by omega]; exact hb2
   obtain ⟨c, hc, he⟩ := PlAt.get2 hP hb
   obtain ⟨c2, hc2, he2⟩ := PlAt.get2 hP hb2'
   have s3 := same_upd (o := .tup [.ref b, .ref b2]) hp3
   have hbi : bs[i]? = some (HT.lexLt (r2 c) (r2 c2)) := by
    rw [← hbs, List.getElem?_map]
    have : ((prs.map r2).zip ((prs.map r2).drop 1))[i]? = some (r2 c, r2 c2) := by
     rw [List.getElem?_zip_eq_some]
     refine ⟨by rw [List.getElem?_map, hc]; rfl, ?_⟩
     rw [List.getElem?_drop, show 1 + i = i + 1 by omega, List.getElem?_map, hc2]; rfl
    rw [this]; rfl
   refine ⟨p3, _, rfl, SqT.of upd_same, rfl, _, _, rfl, _, _, rfl, rfl, ?_⟩
   refine body_all ?_
   refine ⟨_, rfl, _, rfl, b, b2, r2 c, r2 c2, rfl, rfl, SqT.of (s3 _ _ (hs _ _ (s1 _ _ he))), SqT.of (s3 _ _ (hs _ _ (s1 _ _ he2))), ?_⟩
   have hi : i < (ps.drop 1).length := (List.getElem?_eq_some_iff.mp hb2).1
   rw [List.length_drop] at hi
   refine ⟨_, s3 _ _ hl', small1000 (by rw [List.length_map, List.length_take]; omega), rfl, fun b' u e' => ?_, ?_⟩
   ·rw [upd_ne (ne_of_none e' hr')]; exact s3 _ _ (hs _ _ e')
   ·rw [upd_same, List.take_succ, hbi, List.map_append]; rfl
  ·rintro σ H' ⟨_, hs, hl'⟩
   rw [List.length_map, List.length_drop, List.take_of_length_le (by omega)] at hl'
   refine ⟨r, bs, rfl, SqL.of hl', ?_⟩
   rw [← hbs, up_zip]
   exact q H' (s1.trans hs)
theorem scClaim : FnScope ["thing", "holder", "sort", "many"] ["thing"] (defScope sClaim) := ⟨rfl, rfl, rfl, by decide +kernel, rfl, by decide +kernel, by decide +kernel⟩
theorem ok_claim {f g1 g2 : Addr} {fd d1 d2 : FuncData} (F : Fun K "is_claim" "is_claim" sClaim f fd) (T : Txt mg) (a1 : At P w K mg base 1 "is_tuple_within" g1 d1 ["thing", "least", "most"] spTuple) (a2 : At P w K mg base 2 "is_number_within" g2 d2 ["thing", "least", "most"] spWithin) : FnOk P w K mg base CX0 3 f fd ["thing"] spClaim := by
 obtain ⟨t1, mS⟩ := T.sorts
 obtain ⟨t2, mH⟩ := T.holders
 obtain ⟨t3, mR⟩ := T.rights
 refine F.ok scClaim (fun vs H Q E h => ?_) (fun cdv A outer s H vs Q E hr h => ?_)
 ·obtain ⟨v, rfl, _⟩ := h; rfl
 ·obtain ⟨v, rfl, kn, q⟩ := h
  have nd := scClaim.nd
  refine ⟨_, pss_cons (ps_if (pt_not (pt_val (pe_call a1.ok (hr.mono (by decide)) rfl a1.nm a1.kp a1.bd .nil pass0 (pa_cons (pv 0) (pa_cons pe_int (pa_cons pe_int pa_nil)))))) (pss_one (ps_ret pe_bl)) pss_nil) <|
   pss_cons (ps_asg (pv 0) (pg_tup rfl (pgs_cons (pg_name (i := 1) nd rfl (Or.inl rfl)) (pgs_cons (pg_name (i := 2) nd rfl (Or.inl rfl)) (pgs_cons (pg_name (i := 3) nd rfl (Or.inl rfl)) pgs_nil))))) <|
   pss_cons (ps_if (PW.pt (pw_or (pt_not (pt_val (pe_call a2.ok hr rfl a2.nm a2.kp a2.bd .nil pass0 (pa_cons (pv 1) (pa_cons pe_int (pa_cons (pe_op op_sub (pe_glob (v := .int 4) rfl mH ⟨_, rfl⟩) pe_int) pa_nil))))))
    (pw_or1 (pt_not (pt_val (pe_call a2.ok hr rfl a2.nm a2.kp a2.bd .nil pass0 (pa_cons (pv 2) (pa_cons pe_int (pa_cons (pe_op op_sub (pe_glob (v := .int 6) rfl mS ⟨_, rfl⟩) pe_int) pa_nil))))))))) (pss_one (ps_ret pe_bl)) pss_nil) <|
   pss_one (ps_ret (pe_call a2.ok hr rfl a2.nm a2.kp a2.bd .nil pass0 (pa_cons (pv 3) (pa_cons pe_int (pa_cons (pe_glob (v := .int 20) rfl mR ⟨_, rfl⟩) pa_nil))))), ?_⟩
  refine ⟨_, rfl, _, 3, 3, rfl, kn.le (by decide), _, rfl, ?_⟩
  cases ht : tupIn H 3 3 v with
  | false =>
   have e : clV H v = false := by
    unfold tupIn at ht; unfold clV
    cases z : tupOf H v with
    | none => rfl
    | some xs =>
     rw [z] at ht
     match xs, ht with
     | [_, _, _], ht => exact absurd ht (by simp)
     | [], _ => rfl
     | [_], _ => rfl
     | [_, _], _ => rfl
     | _ :: _ :: _ :: _ :: _, _ => rfl
   rw [e] at q
   exact iteT q
  | true =>
   unfold tupIn at ht
   cases z : tupOf H v with
   | none => rw [z] at ht; cases ht
   | some xs =>
    rw [z] at ht
    have ht' : (decide ((3 : Int) ≤ xs.length) && decide ((xs.length : Int) ≤ 3)) = true := ht
    rw [Bool.and_eq_true, decide_eq_true_eq, decide_eq_true_eq] at ht'
    match xs, z, ht' with
    | [x0, x1, x2], z, _ =>
     obtain ⟨b, rfl, hb⟩ := of_tupOf z
     obtain ⟨_, hx⟩ := kn.items hb
     have k0 : Kn H 1 x0 := hx x0 (by simp)
     have k1 : Kn H 1 x1 := hx x1 (by simp)
     have k2 : Kn H 1 x2 := hx x2 (by simp)
     have e : clV H (.ref b) = (numIn 0 3 x0 && (numIn 0 5 x1 && numIn 1 20 x2)) := by unfold clV; rw [z]
     rw [e] at q
     refine iteF ?_
     refine ⟨_, rfl, b, _, rfl, SqT.of hb, rfl, _, _, rfl, _, _, rfl, _, _, rfl, rfl, ?_⟩
     refine ⟨_, rfl, _, _, rfl, rfl, _, 0, 3, rfl, k0, _, rfl, ?_⟩
     cases e0 : numIn 0 3 x0 with
     | false =>
      rw [e0] at q
      exact iteT (iteT q)
     | true =>
      rw [e0] at q
      refine iteF ?_
      refine ⟨_, rfl, _, _, rfl, rfl, _, 0, 5, rfl, k1, _, rfl, ?_⟩
      cases e1 : numIn 0 5 x1 with
      | false =>
       rw [e1] at q
       exact iteT q
      | true =>
       rw [e1] at q
       refine iteF ?_
       exact ⟨_, rfl, _, 1, 20, rfl, k2, q⟩
    | [], _, h => simp at h
    | [_], _, h => simp at h
    | [_, _], _, h => simp at h
    | _ :: _ :: _ :: _ :: _, _, h => simp at h; omega
theorem scClaims : FnScope ["thing"] ["thing"] (defScope sClaims) := ⟨rfl, rfl, rfl, by decide +kernel, rfl, by decide +kernel, by decide +kernel⟩
theorem ndHSM : (["holder", "sort", "many"] : List Str).Nodup := by decide +kernel
theorem ok_claims {f g1 g2 g3 : Addr} {fd d1 d2 d3 : FuncData} (F : Fun K "are_claims" "are_claims" sClaims f fd) (T : Txt mg) (a1 : At P w K mg base 1 "is_tuple_within" g1 d1 ["thing", "least", "most"] spTuple) (a2 : At P w K mg base 3 "is_claim" g2 d2 ["thing"] spClaim) (a3 : At P w K mg base 1 "is_rising" g3 d3 ["things"] spRising) : FnOk P w K mg base CX0 4 f fd ["thing"] spClaims := by
 obtain ⟨t1, mS⟩ := T.claims
 refine F.ok scClaims (fun vs H Q E h => ?_) (fun cdv A outer s H vs Q E hr h => ?_)
 ·obtain ⟨v, rfl, _⟩ := h; rfl
 ·obtain ⟨v, rfl, kn, q⟩ := h
  refine ⟨_, pss_cons (ps_if (PW.pt (pw_or (pt_not (pt_val (pe_call a1.ok (hr.mono (by decide)) rfl a1.nm a1.kp a1.bd .nil pass0 (pa_cons (pv 0) (pa_cons pe_int (pa_cons (pe_glob (v := .int 12) rfl mS ⟨_, rfl⟩) pa_nil))))))
    (pw_or1 (pt_not (pt_val (pe_callB (call_all rfl) rfl T.all boot_all (pa_cons (pe_comp1 (defScope sClaims).names ["thing"] ["claim"] [] rfl (pi_tup (pv 0)) rfl rfl rfl (by decide +kernel)
     (fun Z => pg_name (i := 0) (show (["claim"] : List Str).Nodup by decide +kernel) rfl (Or.inl rfl)) (fun Z => pts_nil)
     (fun Z => pe_call a2.ok hr rfl a2.nm a2.kp a2.bd .nil pass0 (pa_v (pv 0) pa_nil))) pa_nil)))))) ) (pss_one (ps_ret pe_bl)) pss_nil)
   (pss_one (ps_ret (pe_call a3.ok (hr.mono (by decide)) rfl a3.nm a3.kp a3.bd .nil pass0 (pa_lc (pe_comp1 (defScope sClaims).names ["thing"] ["holder", "sort", "many"] [] rfl (pi_tup (pv 0)) rfl rfl rfl (by decide +kernel)
    (fun Z => pg_tup rfl (pgs_cons (pg_name (i := 0) ndHSM rfl (Or.inl rfl)) (pgs_cons (pg_name (i := 1) ndHSM rfl (Or.inl rfl)) (pgs_cons (pg_name (i := 2) ndHSM rfl (Or.inl rfl)) pgs_nil)))) (fun Z => pts_nil) (fun Z => pe_tup (pa_v (pv 0) (pa_v (pv 1) pa_nil)))) pa_nil)))), ?_⟩
  refine ⟨_, rfl, _, 1, 12, rfl, kn.le (by decide), _, rfl, ?_⟩
  cases ht : tupIn H 1 12 v with
  | false =>
   have e : clsV H v = false := by
    unfold tupIn at ht; unfold clsV
    cases z : tupOf H v with
    | none => rfl
    | some xs =>
     rw [z] at ht
     have ht' : (decide ((1 : Int) ≤ xs.length) && decide ((xs.length : Int) ≤ 12)) = false := ht
     show (decide (1 ≤ xs.length) && decide (xs.length ≤ 12) && _ && _) = false
     rw [show (decide (1 ≤ xs.length) && decide (xs.length ≤ 12)) = false by rw [← ht']; congr 1 <;> rw [decide_eq_decide] <;> omega]; rfl
   rw [e] at q
   exact iteT (iteT (q H (Same.refl H)))
  | true =>
   unfold tupIn at ht
   cases z : tupOf H v with
   | none => rw [z] at ht; cases ht
   | some xs =>
    rw [z] at ht
    have ht' : (decide ((1 : Int) ≤ xs.length) && decide ((xs.length : Int) ≤ 12)) = true := ht
    rw [Bool.and_eq_true, decide_eq_true_eq, decide_eq_true_eq] at ht'
    obtain ⟨a, rfl, ha⟩ := of_tupOf z
    obtain ⟨hz, hx⟩ := kn.items ha
    have e : clsV H (.ref a) = (xs.all (clV H) && upL (xs.map (k2V H))) := by
     unfold clsV; rw [z]
     show (decide (1 ≤ xs.length) && decide (xs.length ≤ 12) && _ && _) = _
     rw [decide_eq_true (show 1 ≤ xs.length by omega), decide_eq_true (show xs.length ≤ 12 by omega)]; rfl
    rw [e] at q
    refine iteF ?_
    refine ⟨_, rfl, a, rfl, ⟨_, SqT.of ha⟩, fun Z l hl => ?_⟩
    refine comp_map (fun x => .bl (clV H x)) ha hl hz (fun x H' Q' hm hs hq => ?_) fun σ H' hs hl' => ?_
    ·refine ⟨_, rfl, _, rfl, (hx x hm).ext hs.ext, ?_⟩
     rw [clV_same hs ((hx x hm).le (by decide))]
     exact hq _ (Same.refl _)
    ·refine ⟨l, xs.map (clV H), rfl, SqL.of (by rw [hl']; simp only [List.map_map]; rfl), _, rfl, ?_⟩
     rw [show (xs.map (clV H)).all id = xs.all (clV H) by rw [List.all_map]; rfl]
     cases hall : xs.all (clV H) with
     | false =>
      rw [hall] at q
      exact iteT (q H' hs)
     | true =>
      rw [hall] at q
      refine iteF ?_
      obtain ⟨bs, cl, rfl, hC, hk⟩ := clV_all hall
      have hlen : bs.length = cl.length := Paired.length hC
      rw [List.length_map] at ht'
      refine ⟨_, rfl, a, rfl, ⟨_, SqT.of (hs _ _ ha)⟩, fun Z2 l2 hl2 => ?_⟩
      refine comp_key wk_tup (fun H2 hs2 => SqT.of (hs2 _ _ (hs _ _ ha))) (hC.ext hs.ext) hl2 (by omega) fun σ2 H2 ps hs2 hp2 hP2 => ?_
      refine ⟨l2, ps, cl.map key2, rfl, hp2, hP2, by rw [List.length_map]; omega, by rw [List.length_map]; omega, fun H3 hs3 => ?_⟩
      rw [hk] at q
      exact q H3 ((hs.trans hs2).trans hs3)
end
end M54
namespace M54
open PySem L2 PyProof.Rows
noncomputable abbrev Gr := List (List Int)
noncomputable def numB (lo hi n : Int) : Bool := decide (lo ≤ n) && decide (n ≤ hi)
noncomputable def rowG (xs : List Int) : Bool := decide (1 ≤ xs.length) && decide (xs.length ≤ 6) && xs.all (numB (-2) 99)
noncomputable def cntK (xs : List Int) : Nat := (xs.filter fun n => decide (0 ≤ n)).length
noncomputable def meadG (g : Gr) : Bool := decide (1 ≤ g.length) && decide (g.length ≤ 4) && g.all rowG && g.all (fun xs => decide (xs.length = (g.headD []).length)) && (decide (1 ≤ (g.map cntK).sum) && decide ((g.map cntK).sum ≤ 10))
noncomputable def claimG : List Int → Bool | [a, b, c] => numB 0 3 a && (numB 0 5 b && numB 1 20 c) | _ => false
noncomputable def clsG (g : Gr) : Bool := decide (1 ≤ g.length) && decide (g.length ≤ 12) && g.all claimG && upL (g.map fun xs => xs.take 2)
theorem RowsG.row {H : Hp} : ∀ {bs : List Addr} {g : Gr} {i : Nat} {b : Addr}, RowsG H bs g → bs[i]? = some b → ∃ xs, g[i]? = some xs ∧ H b = some (.tup (xs.map V.int))
 | _, _, 0, _, .cons r _, h => by cases h; exact ⟨_, rfl, r⟩
 | _, _, i + 1, _, .cons _ t, h => RowsG.row (i := i) t (by simpa using h)
theorem rows_all {H : Hp} {f : V → Bool} {k : List Int → Bool} (hf : ∀ b xs, H b = some (.tup (xs.map V.int)) → f (.ref b) = k xs) : ∀ {bs : List Addr} {g : Gr}, RowsG H bs g → (bs.map V.ref).all f = g.all k
 | _, _, .nil => rfl
 | _, _, .cons r t => by rw [List.map_cons, List.all_cons, List.all_cons, hf _ _ r, rows_all hf t]
theorem rows_map {α : Type} {H : Hp} {f : V → α} {k : List Int → α} (hf : ∀ b xs, H b = some (.tup (xs.map V.int)) → f (.ref b) = k xs) : ∀ {bs : List Addr} {g : Gr}, RowsG H bs g → (bs.map V.ref).map f = g.map k
 | _, _, .nil => rfl
 | _, _, .cons r t => by rw [List.map_cons, List.map_cons, List.map_cons, hf _ _ r, rows_map hf t]
theorem all_int (lo hi : Int) (xs : List Int) : (xs.map V.int).all (numIn lo hi) = xs.all (numB lo hi) := by rw [List.all_map]; rfl
theorem filt_int : ∀ xs : List Int, ((xs.map V.int).filter nonneg).length = cntK xs
 | [] => rfl
 | x :: xs => by
  have ih := filt_int xs
  unfold cntK at ih ⊢
  by_cases h : 0 ≤ x
  ·rw [List.map_cons, List.filter_cons_of_pos (by show decide (0 ≤ x) = true; exact decide_eq_true h), List.filter_cons_of_pos (by exact decide_eq_true h), List.length_cons, List.length_cons, ih]
  ·rw [List.map_cons, List.filter_cons_of_neg (by show ¬ decide (0 ≤ x) = true; simpa using h), List.filter_cons_of_neg (by simpa using h), ih]
theorem GridAt.mead {H : Hp} {a : Addr} {g : Gr} (hA : GridAt H a g) : goodM H (.ref a) = meadG g := by
 obtain ⟨bs, ha, hG⟩ := hA
 have hl : bs.length = g.length := Paired.length hG
 have hlen : ∀ (b : Addr) (xs : List Int), H b = some (.tup (xs.map V.int)) → lenOf H (.ref b) = xs.length := fun b xs h => by
  unfold lenOf; rw [tupOf_of h]; show (xs.map V.int).length = _; rw [List.length_map]
 unfold goodM meadG
 rw [tupOf_of ha]
 dsimp only
 rw [List.length_map, hl, rows_all (f := rowOk H) (k := rowG) (fun b xs h => by
  unfold rowOk rowG; rw [tupOf_of h]; dsimp only; rw [List.length_map, all_int]) hG, rows_map (f := cellsIn H) (k := cntK) (fun b xs h => by
  unfold cellsIn; rw [tupOf_of h]; exact filt_int xs) hG]
 have hh : lenOf H ((bs.map V.ref).headD .non) = (g.headD []).length := by
  cases hG with
  | nil => rfl
  | cons r t => exact hlen _ _ r
 rw [hh, rows_all (f := fun r => decide (lenOf H r = (g.headD []).length)) (k := fun xs => decide (xs.length = (g.headD []).length)) (fun b xs h => by
  show decide (lenOf H (.ref b) = _) = _; rw [hlen b xs h]) hG]
theorem claimG_at {xs : List Int} (h : claimG xs = true) : ∃ a b c, xs = [a, b, c] := by
 match xs, h with
 | [a, b, c], _ => exact ⟨a, b, c, rfl⟩
 | [], h => cases h
 | [_], h => cases h
 | [_, _], h => cases h
 | _ :: _ :: _ :: _ :: _, h => cases h
theorem GridAt.claims {H : Hp} {a : Addr} {g : Gr} (hA : GridAt H a g) : clsV H (.ref a) = clsG g := by
 obtain ⟨bs, ha, hG⟩ := hA
 have hl : bs.length = g.length := Paired.length hG
 unfold clsV clsG
 rw [tupOf_of ha]
 dsimp only
 rw [List.length_map, hl, rows_all (f := clV H) (k := claimG) (fun b xs h => by
  unfold clV; rw [tupOf_of h]
  match xs with
  | [a, b, c] => rfl
  | [] => rfl
  | [_] => rfl
  | [_, _] => rfl
  | _ :: _ :: _ :: _ :: _ => rfl) hG]
 cases hc : g.all claimG with
 | false => rw [Bool.and_false, Bool.false_and, Bool.false_and]
 | true =>
  have : (bs.map V.ref).map (k2V H) = g.map fun xs => xs.take 2 := by
   have go : ∀ {bs : List Addr} {g : Gr}, RowsG H bs g → g.all claimG = true → (bs.map V.ref).map (k2V H) = g.map fun xs => xs.take 2 := by
    intro bs g hG
    induction hG with
    | nil => intro _; rfl
    | cons r t ih =>
     intro hc
     rw [List.all_cons, Bool.and_eq_true] at hc
     obtain ⟨x, y, z, rfl⟩ := claimG_at hc.1
     rw [List.map_cons, List.map_cons, List.map_cons, ih hc.2]
     congr 1
     unfold k2V; rw [tupOf_of r]; rfl
   exact go hG hc
  rw [this]
theorem GridAt.kn {H : Hp} {a : Addr} {g : Gr} (hA : GridAt H a g) (h1 : g.length ≤ 1000) (h2 : ∀ xs ∈ g, xs.length ≤ 1000) : KnA H (.ref a) := by
 obtain ⟨bs, ha, hG⟩ := hA
 have hl : bs.length = g.length := Paired.length hG
 refine KnA.tup ha (by rw [List.length_map]; omega) fun r hr => ?_
 obtain ⟨b, hb, rfl⟩ := List.mem_map.mp hr
 obtain ⟨i, hi, e⟩ := List.getElem_of_mem hb
 obtain ⟨xs, h3, h4⟩ := hG.row (i := i) (b := b) (by rw [List.getElem?_eq_getElem hi, e])
 refine KnA.tup h4 (by rw [List.length_map]; exact h2 xs (List.mem_of_getElem? h3)) fun x hx => ?_
 obtain ⟨n, _, rfl⟩ := List.mem_map.mp hx
 exact KnA.int n
theorem gridOf_len (m a : Str) : (gridOf m a).length = (Txt.split a m).length := by unfold gridOf rowsOf; rw [List.length_map, List.length_map]
theorem gridOf_row {m a : Str} {xs : List Int} (h : xs ∈ gridOf m a) : ∃ r ∈ Txt.split a m, xs = (wordsOf r).map numI := by
 unfold gridOf rowsOf at h
 rw [List.map_map] at h
 obtain ⟨r, hr, e⟩ := List.mem_map.mp h
 exact ⟨r, hr, e.symm⟩
theorem gridOf_rowlen {m a : Str} {xs : List Int} (h : xs ∈ gridOf m a) : 1 ≤ xs.length ∧ xs.length ≤ a.length + 2 := by
 obtain ⟨r, hr, rfl⟩ := gridOf_row h
 rw [List.length_map]
 have h1 := split_pos r ","
 have h2 := split_count r ","
 have h3 := split_len a m r hr
 unfold wordsOf
 omega
theorem GridAt.knT {H : Hp} {p : Addr} {m a : Str} (hA : GridAt H p (gridOf m a)) (ha : a.length ≤ 900) : KnA H (.ref p) :=
 hA.kn (by rw [gridOf_len]; have := split_count a m; omega) fun xs hx => by have := (gridOf_rowlen hx).2; omega
noncomputable def goodMT (a : Str) : Bool := okT "/" a && meadG (gridOf "/" a)
noncomputable def goodCT (a : Str) : Bool := okT ";" a && clsG (gridOf ";" a)
section
variable {P : Program} {w : World} {K : PySem.W.Frag} {mg : Str → Option Value} {base : Heap}
theorem scReadMead : FnScope ["text", "mead"] ["text"] (defScope sReadMead) := ⟨rfl, rfl, rfl, by decide +kernel, rfl, by decide +kernel, by decide +kernel⟩
theorem scReadClaims : FnScope ["text", "claims"] ["text"] (defScope sReadClaims) := ⟨rfl, rfl, rfl, by decide +kernel, rfl, by decide +kernel, by decide +kernel⟩
theorem ok_readMead {f g g2 C : Addr} {fd gd gd2 : FuncData} (F : Fun K "read_mead" "read_mead" sReadMead f fd) (a1 : AtX P w K mg base 3 "rows_read" g gd ["text", "mark"] (spRowsRead C)) (a2 : At P w K mg base 4 "is_mead" g2 gd2 ["thing"] spMead) (mC : mg "NoText" = some (.ref C)) (c : ExcC K C) : FnOk P w K mg base (CX1 P w) 5 f fd ["text"] (spRead C goodMT (gridOf "/")) := by
 refine F.okX scReadMead (fun vs H Q E h => ?_) (fun cdv A outer s H vs Q E hr h => ?_)
 ·obtain ⟨v, rfl, _⟩ := h; rfl
 ·obtain ⟨v, rfl, kn, q1, q2⟩ := h
  have nd := scReadMead.nd
  refine ⟨_, pss_cons (ps_set (i := 1) nd rfl (Or.inl rfl) (pe_call a1.ok (hr.mono (by decide)) rfl a1.nm a1.kp a1.bd .nil pass1 (pa_v (pv 0) (pa_c pe_str pa_nil)))) <|
   pss_cons (ps_if (pt_not (pt_val (pe_call a2.ok hr rfl a2.nm a2.kp a2.bd .nil pass0 (pa_v (pv 1) pa_nil)))) (pss_one (ps_raise (E := E) rfl rfl rfl rfl rfl rfl mC c)) pss_nil) <|
   pss_one (ps_ret (pv 1)), ?_⟩
  refine ⟨_, rfl, v, "/", rfl, rfl, kn, fun a e => ?_, q2⟩
  obtain ⟨ha, qT, qF⟩ := q1 a e
  refine ⟨ha, fun hok p H1 s1 hG => ?_, fun hok H1 s1 => qF (by unfold goodMT; rw [hok]; rfl) H1 s1⟩
  refine ⟨_, rfl, _, rfl, hG.knT ha 3, fun H2 s2 => ⟨_, rfl, ?_⟩⟩
  rw [hG.mead]
  refine iteB (fun e => ?_) fun e => ?_
  ·exact qF (by unfold goodMT; rw [hok]; simpa using e) H2 (s1.trans s2)
  ·exact ⟨_, rfl, qT (by unfold goodMT; rw [hok]; simpa using e) p H2 (s1.trans s2) (hG.same s2)⟩
theorem ok_readClaims {f g g2 C : Addr} {fd gd gd2 : FuncData} (F : Fun K "read_claims" "read_claims" sReadClaims f fd) (a1 : AtX P w K mg base 3 "rows_read" g gd ["text", "mark"] (spRowsRead C)) (a2 : At P w K mg base 4 "are_claims" g2 gd2 ["thing"] spClaims) (mC : mg "NoText" = some (.ref C)) (c : ExcC K C) : FnOk P w K mg base (CX1 P w) 5 f fd ["text"] (spRead C goodCT (gridOf ";")) := by
 refine F.okX scReadClaims (fun vs H Q E h => ?_) (fun cdv A outer s H vs Q E hr h => ?_)
 ·obtain ⟨v, rfl, _⟩ := h; rfl
 ·obtain ⟨v, rfl, kn, q1, q2⟩ := h
  have nd := scReadClaims.nd
  refine ⟨_, pss_cons (ps_set (i := 1) nd rfl (Or.inl rfl) (pe_call a1.ok (hr.mono (by decide)) rfl a1.nm a1.kp a1.bd .nil pass1 (pa_v (pv 0) (pa_c pe_str pa_nil)))) <|
   pss_cons (ps_if (pt_not (pt_val (pe_call a2.ok hr rfl a2.nm a2.kp a2.bd .nil pass0 (pa_v (pv 1) pa_nil)))) (pss_one (ps_raise (E := E) rfl rfl rfl rfl rfl rfl mC c)) pss_nil) <|
   pss_one (ps_ret (pv 1)), ?_⟩
  refine ⟨_, rfl, v, ";", rfl, rfl, kn, fun a e => ?_, q2⟩
  obtain ⟨ha, qT, qF⟩ := q1 a e
  refine ⟨ha, fun hok p H1 s1 hG => ?_, fun hok H1 s1 => qF (by unfold goodCT; rw [hok]; rfl) H1 s1⟩
  refine ⟨_, rfl, _, rfl, hG.knT ha 3, fun H2 s2 => ⟨_, rfl, ?_⟩⟩
  rw [hG.claims]
  refine iteB (fun e => ?_) fun e => ?_
  ·exact qF (by unfold goodCT; rw [hok]; simpa using e) H2 (s1.trans s2)
  ·exact ⟨_, rfl, qT (by unfold goodCT; rw [hok]; simpa using e) p H2 (s1.trans s2) (hG.same s2)⟩
end
end M54
namespace Grd
noncomputable abbrev Grid := List (List Int)
noncomputable def pos (n : Int) : Bool := decide (0 ≤ n)
noncomputable def cntR (xs : List Int) : Nat := (xs.filter pos).length
noncomputable def cntG (g : Grid) : Nat := (g.map cntR).sum
structure Good (g : Grid) (w : Nat) : Prop where
 h1 : 1 ≤ g.length
 h4 : g.length ≤ 4
 w1 : 1 ≤ w
 w5 : w ≤ 5
 len : ∀ xs ∈ g, xs.length = w
 num : ∀ xs ∈ g, ∀ n ∈ xs, -2 ≤ n ∧ n ≤ 99
 c1 : 1 ≤ cntG g
 c10 : cntG g ≤ 10
theorem zipIdx_take {α : Type} (xs : List α) (i : Nat) (x : α) (h : xs[i]? = some x) : (xs.take (i + 1)).zipIdx = (xs.take i).zipIdx ++ [(x, i)] := by
 have hlt : i < xs.length := (List.getElem?_eq_some_iff.mp h).1
 rw [List.take_succ, h, List.zipIdx_append]
 simp
 omega
theorem cntR_succ (xs : List Int) (x : Int) : cntR (xs ++ [x]) = cntR xs + if pos x then 1 else 0 := by
 unfold cntR
 rw [List.filter_append, List.length_append]
 cases hp : pos x <;> simp [hp]
theorem cntG_succ (g : Grid) (xs : List Int) : cntG (g ++ [xs]) = cntG g + cntR xs := by
 unfold cntG
 rw [List.map_append, List.sum_append]
 simp
end Grd
namespace L2
open PySem Grd
noncomputable def forBody (s : Stmt) : List Stmt := match s with | .For _ _ b _ _ => b | _ => []
end L2
namespace M54
open PySem L2 PyProof.Rows Grd
noncomputable def spMeadL : Sp := fun vs H Q _ => ∃ p, vs = [.ref p, .int 10] ∧ PenAt H p ∧ ∀ a g w H', Stp p H H' → GridAt H' a g → Good g w → Q (.ref a) H'
section
variable {P : Program} {w : World} {K : PySem.W.Frag} {mg : Str → Option Value} {base : Heap}
noncomputable abbrev nMeadL : List Str := ["_law_pen_here", "_law_most", "_law_high", "_law_wide", "_law_odds", "_law_rows", "_law_left", "_law_line", "_law_row", "_law_place", "_law_number"]
theorem scMeadL : FnScope nMeadL ["_law_pen_here", "_law_most"] (defScope sMeadL) := ⟨rfl, rfl, rfl, by decide +kernel, rfl, by decide +kernel, by decide +kernel⟩
noncomputable abbrev σM (p lr : Addr) (m hi wi od lf : Int) (o7 o8 o9 o10 : Option V) : L2.St := [some (.ref p), some (.int m), some (.int hi), some (.int wi), some (.int od), some (.ref lr), some (.int lf), o7, o8, o9, o10]
noncomputable def dec (n : Int) : Int := if decide (0 ≤ n) = true then 1 else 0
theorem dec_cnt (n : Int) : ((if pos n then 1 else 0 : Nat) : Int) = dec n := by
 unfold dec pos
 by_cases h : 0 ≤ n <;> simp [h]
theorem cutI (xs : List Int) (h : 1 ≤ xs.length) : cutV (xs.map V.int) (some 1) none = (xs.drop 1).map V.int := by
 have e1 : HT.sIx (xs.map V.int).length 0 (some 1) = min 1 (xs.map V.int).length := HT.sIx_nat _ _ 1
 have e2 : HT.sIx (xs.map V.int).length (xs.map V.int).length none = (xs.map V.int).length := rfl
 unfold cutV
 rw [e1, e2, List.length_map]
 have e3 : min 1 xs.length = 1 := by omega
 rw [e3, ← List.map_drop, List.take_of_length_le (by rw [List.length_map, List.length_drop]; omega)]
theorem ok_meadL {f g : Addr} {fd gd : FuncData} (F : Fun K "_law_mead" "_law_mead" sMeadL f fd) (T : Txt mg) (b1 : Binds K gd ["_law_pen_here", "_law_many"] []) (m1 : mg "_law_draw" = some (.ref g)) (p1 : PySem.W.keepIn K (.ref g) = true)
  (D : FnOk P w K mg base CX0 1 g gd ["_law_pen_here", "_law_many"] spDraw) : FnOk P w K mg base CX0 2 f fd ["_law_pen_here", "_law_most"] spMeadL := by
 refine F.ok scMeadL (fun vs H Q E h => ?_) (fun cdv A outer s H vs Q E hr h => ?_)
 ·obtain ⟨p, rfl, _⟩ := h; rfl
 ·obtain ⟨p, rfl, hp, q⟩ := h
  have nd := scMeadL.nd
  -- left = left - int(number >= 0); row.append(number)
  have t45 : ∃ tt, PSs (cxOf CX0 P w K mg base nMeadL "_law_mead" (defScope sMeadL) f cdv A outer s H E).nox ((forBody ((forBody ((defBody sMeadL).getD 2 (.Pass ⟨0, 0, 0, 0⟩))).getD 1 (.Pass ⟨0, 0, 0, 0⟩))).drop 3) tt ∧
    ∀ (lr rw' : Addr) (hi wi od lf n : Int) (o7 o9 : Option V) (H1 : Hp) (xs : List V) (De : Ends), H1 rw' = some (.lst xs) → xs.length ≤ 10 → De.nx (σM p lr 10 hi wi od (lf - dec n) o7 (some (.ref rw')) o9 (some (.int n))) (upd H1 rw' (.lst (xs ++ [.int n]))) →
     tt De (σM p lr 10 hi wi od lf o7 (some (.ref rw')) o9 (some (.int n))) H1 := by
   refine ⟨_, pss_cons (ps_set (i := 6) nd rfl (Or.inl rfl) (pe_op op_sub (pv 6) (pe_callTy call_int1 rfl T.int boot_int (pa_m (pe_cmpR op_ge (pv 10) pe_int (nomark _)) pa_nil)))) <|
    pss_one (ps_expr (pe_bm PySem.F.plainAttrs_list PySem.F.slot_list_append PySem.F.type_list_append mt_append (pv 8) (pa_v (pv 10) pa_nil))), ?_⟩
   intro lr rw' hi wi od lf n o7 o9 H1 xs De hrw hz k
   refine ⟨_, rfl, _, rfl, _, _, rfl, rfl, .inr ⟨_, rfl, _, _, rfl, rfl, ?_⟩⟩
   exact ⟨_, rfl, .inl ⟨rfl, _, SqL.of hrw⟩, _, rfl, rw', xs, _, rfl, rfl, hrw, small1000 (by omega), k⟩
  obtain ⟨tt45, h45, r45⟩ := t45
  have t345 : ∃ tt, PSs (cxOf CX0 P w K mg base nMeadL "_law_mead" (defScope sMeadL) f cdv A outer s H E).nox ((forBody ((forBody ((defBody sMeadL).getD 2 (.Pass ⟨0, 0, 0, 0⟩))).getD 1 (.Pass ⟨0, 0, 0, 0⟩))).drop 2) tt ∧
    ∀ (lr rw' : Addr) (hi wi od lf n : Int) (o7 o9 : Option V) (H1 : Hp) (xs : List V) (De : Ends), H1 rw' = some (.lst xs) → xs.length ≤ 10 → (∀ n', (n' = n ∨ n' = -1) → (0 ≤ n' → lf ≠ 0) → De.nx (σM p lr 10 hi wi od (lf - dec n') o7 (some (.ref rw')) o9 (some (.int n'))) (upd H1 rw' (.lst (xs ++ [.int n'])))) →
     tt De (σM p lr 10 hi wi od lf o7 (some (.ref rw')) o9 (some (.int n))) H1 := by
   refine ⟨_, pss_cons (ps_if (PW.pt (pw_and (pt_cmpR op_ge (pv 10) pe_int (nomark _)) (pw_and1 (pt_cmpR op_eq (pv 6) pe_int (nomark _))))) (pss_one (ps_set (i := 10) nd rfl (Or.inl rfl) (pe_un un_neg pe_int))) pss_nil) h45, ?_⟩
   intro lr rw' hi wi od lf n o7 o9 H1 xs De hrw hz k
   refine ⟨_, rfl, _, _, rfl, rfl, _, rfl, ite2d (fun n0 => ?_) fun n0 => ?_⟩
   ·refine ⟨_, rfl, rfl, _, rfl, ite2d (fun l0 => ?_) fun l0 => ?_⟩
    ·exact ⟨_, rfl, r45 lr rw' hi wi od lf _ o7 o9 H1 xs De hrw hz (k (-1) (.inr rfl) fun z => absurd z (by decide))⟩
    ·exact r45 lr rw' hi wi od lf n o7 o9 H1 xs De hrw hz (k n (.inl rfl) fun _ z => l0 (by rw [z]))
   ·refine iteF ?_
    exact r45 lr rw' hi wi od lf n o7 o9 H1 xs De hrw hz (k n (.inl rfl) fun z => absurd z n0)
  obtain ⟨tt3, h3, r3⟩ := t345
  have tin : ∃ tt, PSs (cxOf CX0 P w K mg base nMeadL "_law_mead" (defScope sMeadL) f cdv A outer s H E).nox (forBody ((forBody ((defBody sMeadL).getD 2 (.Pass ⟨0, 0, 0, 0⟩))).getD 1 (.Pass ⟨0, 0, 0, 0⟩))) tt ∧
    ∀ (lr rw' : Addr) (hi wi od lf : Int) (o7 o9 o10 : Option V) (H1 : Hp) (xs : List V) (De : Ends), PenAt H1 p → H1 rw' = some (.lst xs) → rw' ≠ p → xs.length ≤ 10 →
     (∀ n' H2, Stp p H1 H2 → -2 ≤ n' → n' ≤ 99 → (0 ≤ n' → lf ≠ 0) → De.nx (σM p lr 10 hi wi od (lf - dec n') o7 (some (.ref rw')) o9 (some (.int n'))) (upd H2 rw' (.lst (xs ++ [.int n'])))) →
     tt De (σM p lr 10 hi wi od lf o7 (some (.ref rw')) o9 o10) H1 := by
   refine ⟨_, pss_cons (ps_set (i := 10) nd rfl (Or.inl rfl) (pe_ix ix_list (pe_lst (pa_k (pe_call D hr rfl m1 p1 b1 .nil pass0 (pa_v (pv 0) (pa_c pe_int pa_nil))) (pa_k (pe_call D hr rfl m1 p1 b1 .nil pass0 (pa_v (pv 0) (pa_c pe_int pa_nil))) (pa_u (pe_un un_neg pe_int) (pa_u (pe_un un_neg pe_int) (pa_c pe_int pa_nil))))))
     (pe_call D hr rfl m1 p1 b1 .nil pass0 (pa_v (pv 0) (pa_c pe_int pa_nil))) (fun _ _ => rfl))) <|
    pss_cons (ps_if (PW.pt (pw_and (pt_cmpR op_gt (pv 4) pe_int (nomark _)) (pw_and1 (pt_cmpR op_eq (pe_call D hr rfl m1 p1 b1 .nil pass0 (pa_v (pv 0) (pa_c pe_int pa_nil))) pe_int (nomark _))))) (pss_one (ps_set (i := 10) nd rfl (Or.inl rfl) (pe_call D hr rfl m1 p1 b1 .nil pass0 (pa_v (pv 0) (pa_c pe_int pa_nil))))) pss_nil) h3, ?_⟩
   intro lr rw' hi wi od lf o7 o9 o10 H1 xs De hp1 hrw hrp hz k
   refine ⟨_, rfl, p, 4, rfl, hp1, by decide, by decide, fun d1 H2 a1 a2 st2 => ?_⟩
   refine ⟨_, rfl, p, 100, rfl, st2.pen, by decide, by decide, fun d2 H3 c1 c2 st3 => ?_⟩
   refine ⟨_, rfl, _, rfl, ?_⟩
   refine ⟨by show 5 ≤ sizeLine; decide, fun l hl => ?_⟩
   have stl : Stp p H1 (upd H3 l (.lst [.int d1, .int d2, .int (-1), .int (-2), .int 1])) := (st2.trans st3).same (same_upd hl)
   refine ⟨_, rfl, p, 5, rfl, stl.pen, by decide, by decide, fun i H4 i0 i1 st4 => ?_⟩
   have hlp : l ≠ p := fun z => by
    obtain ⟨x, f', e⟩ := st3.pen
    rw [z, e] at hl; cases hl
   obtain ⟨n, hn, nlo, nhi⟩ : ∃ n, atI [V.int d1, .int d2, .int (-1), .int (-2), .int 1] i = some (.int n) ∧ -2 ≤ n ∧ n ≤ 99 := by
    obtain ⟨j, rfl⟩ := Int.eq_ofNat_of_zero_le i0
    have hj : j < 5 := by omega
    match j, hj with
    | 0, _ => exact ⟨_, atI_nat rfl, by omega, by omega⟩
    | 1, _ => exact ⟨_, atI_nat rfl, by omega, by omega⟩
    | 2, _ => exact ⟨_, atI_nat rfl, by omega, by omega⟩
    | 3, _ => exact ⟨_, atI_nat rfl, by omega, by omega⟩
    | 4, _ => exact ⟨_, atI_nat rfl, by omega, by omega⟩
   have st5 := stl.trans st4
   refine ⟨l, _, i, _, rfl, rfl, SqL.of (st4.keep l _ hlp upd_same), hn, ?_⟩
   refine ⟨_, rfl, _, _, rfl, rfl, _, rfl, ite2d (fun _ => ?_) fun _ => ?_⟩
   ·refine ⟨_, rfl, p, 2, rfl, st5.pen, by decide, by decide, fun z H5 z0 z1 st6 => ?_⟩
    refine ⟨rfl, _, rfl, ite2d (fun _ => ?_) fun _ => ?_⟩
    ·refine ⟨_, rfl, p, 9, rfl, st6.pen, by decide, by decide, fun n2 H6 y0 y1 st7 => ?_⟩
     have st8 := (st5.trans st6).trans st7
     exact r3 lr rw' hi wi od lf n2 o7 o9 H6 xs De (st8.keep _ _ hrp hrw) hz fun n' e hl => k n' H6 st8 (by omega) (by omega) hl
    ·have st8 := st5.trans st6
     exact r3 lr rw' hi wi od lf n o7 o9 H5 xs De (st8.keep _ _ hrp hrw) hz fun n' e hl => k n' H5 st8 (by omega) (by omega) hl
   ·refine iteF ?_
    exact r3 lr rw' hi wi od lf n o7 o9 H4 xs De (st5.keep _ _ hrp hrw) hz fun n' e hl => k n' H4 st5 (by omega) (by omega) hl
  obtain ⟨tti, hin, rin⟩ := tin
  refine ⟨_, pss_cons (ps_par3 (i := 2) (j := 3) (k := 4) rfl nd rfl rfl rfl (by decide) (by decide) (by decide) rfl rfl rfl (pa_b (pe_op op_add pe_int (pe_call D hr rfl m1 p1 b1 .nil pass0 (pa_v (pv 0) (pa_c pe_int pa_nil)))) (pa_b (pe_op op_add pe_int (pe_call D hr rfl m1 p1 b1 .nil pass0 (pa_v (pv 0) (pa_c pe_int pa_nil)))) (pa_k (pe_call D hr rfl m1 p1 b1 .nil pass0 (pa_v (pv 0) (pa_c pe_int pa_nil))) pa_nil))) rfl) <|
   pss_cons (ps_par (i := 5) (j := 6) rfl nd rfl rfl (by decide) rfl rfl (pa_l (pe_lst pa_nil) (pa_v (pv 1) pa_nil)) rfl) <|
   pss_cons (ps_for PassesOwn.never rfl (pi_range1 rfl T.range (pa_v (pv 2) pa_nil)) (pg_name (i := 7) nd rfl (Or.inl rfl))
    (pss_cons (ps_set (i := 8) nd rfl (Or.inl rfl) (pe_lst pa_nil)) <|
    pss_cons (ps_for PassesOwn.never rfl (pi_range1 rfl T.range (pa_v (pv 3) pa_nil)) (pg_name (i := 9) nd rfl (Or.inl rfl)) hin) <|
    pss_one (ps_expr (pe_bm PySem.F.plainAttrs_list PySem.F.slot_list_append PySem.F.type_list_append mt_append (pv 5) (pa_k (pe_callTy call_tuple_of rfl T.tuple boot_tuple (pa_v (pv 8) pa_nil)) pa_nil))))) <|
   pss_cons (ps_if (pt_cmpR op_eq (pv 6) (pv 1) (nomark _)) (pss_one (ps_asg (pe_op op_catU (pe_tup (pa_c pe_int pa_nil)) (pe_slice sl_tupU (pe_ix ix_list (pv 5) pe_int (fun _ _ => rfl)) (po_some pe_int) po_none)) (pg_sub (pv 5) pe_int set_list))) pss_nil) <|
   pss_one (ps_ret (pe_callTy call_tuple_of rfl T.tuple boot_tuple (pa_v (pv 5) pa_nil))), ?_⟩
  refine ⟨_, rfl, p, 4, rfl, hp, by decide, by decide, fun d1 H1 a1 a2 st1 => ?_⟩
  refine ⟨_, _, rfl, rfl, _, rfl, p, 5, rfl, st1.pen, by decide, by decide, fun d2 H2 c1 c2 st2 => ?_⟩
  refine ⟨_, _, rfl, rfl, _, rfl, p, 3, rfl, st2.pen, by decide, by decide, fun od H3 e1 e2 st3 => ?_⟩
  refine ⟨_, _, _, rfl, ?_⟩
  refine ⟨by show 0 ≤ sizeLine; decide, fun lr hlr => ?_⟩
  refine ⟨_, rfl, _, _, rfl, ?_⟩
  have st4 : Stp p H (upd H3 lr (.lst [])) := ((st1.trans st2).trans st3).same (same_upd hlr)
  have hHlr : H lr = none := by
   cases e : H lr with
   | none => rfl
   | some o =>
    by_cases z : lr = p
    ·obtain ⟨x, f', e'⟩ := st3.pen
     rw [z, e'] at hlr; cases hlr
    ·rw [((st1.trans st2).trans st3).keep lr o z e] at hlr; cases hlr
  have hlrp : lr ≠ p := fun z => by
   obtain ⟨x, f', e'⟩ := hp
   rw [z, e'] at hHlr; cases hHlr
  refine ⟨_, rfl, 1 + d1, rfl, by omega, by omega, ?_⟩
  refine for_range (lo := 0) (n := (1 + d1).toNat) (fun i σ H' => ∃ (lf : Int) (bs : List Addr) (g : Grid), (∃ o7 o8 o9 o10, σ = σM p lr 10 (1 + d1) (1 + d2) od lf o7 o8 o9 o10) ∧ Stp p H H' ∧ H' lr = some (.lst (bs.map V.ref)) ∧ RowsG H' bs g ∧ g.length = i ∧ 0 ≤ lf ∧ lf + cntG g = 10 ∧ (∀ xs ∈ g, xs.length = (1 + d2).toNat) ∧ ∀ xs ∈ g, ∀ n ∈ xs, -2 ≤ n ∧ n ≤ 99)
   ⟨10, [], [], ⟨_, _, _, _, rfl⟩, st4, upd_same, .nil, rfl, by decide, rfl, (fun r hr' => by cases hr'), (fun r hr' => by cases hr')⟩ ?_ ?_
  ·rintro i σ H' hi ⟨lf, bs, g, ⟨o7, o8, o9, o10, rfl⟩, st', hlr', hG, hn, lf0, lfc, hlen, hnum⟩
   have hbs : bs.length = g.length := Paired.length hG
   refine ⟨by show 0 ≤ sizeLine; decide, fun rw' hrw => ?_⟩
   have hrp : rw' ≠ p := fun z => by
    obtain ⟨x, f', e'⟩ := st'.pen
    rw [z, e'] at hrw; cases hrw
   have hrl : rw' ≠ lr := fun z => by rw [z, hlr'] at hrw; cases hrw
   refine ⟨_, rfl, 1 + d2, rfl, by omega, by omega, ?_⟩
   refine for_range (lo := 0) (n := (1 + d2).toNat) (fun j σ H2 => ∃ (lf2 : Int) (xs : List Int), (∃ o9 o10, σ = σM p lr 10 (1 + d1) (1 + d2) od lf2 (some (.int (0 + i))) (some (.ref rw')) o9 o10) ∧ Stp p H' H2 ∧ H2 rw' = some (.lst (xs.map V.int)) ∧ xs.length = j ∧ 0 ≤ lf2 ∧ lf2 + cntR xs = lf ∧ ∀ n ∈ xs, -2 ≤ n ∧ n ≤ 99)
    ⟨lf, [], ⟨_, _, rfl⟩, (Stp.refl st'.pen).updL hrw st'.pen, upd_same, rfl, lf0, by simp [cntR], fun x hx => by cases hx⟩ ?_ ?_
   ·rintro j σ H2 hj ⟨lf2, xs, ⟨o92, o102, rfl⟩, stj, hxs, hnj, l0, lc, hxi⟩
    refine rin lr rw' _ _ _ lf2 _ _ _ H2 (xs.map V.int) _ stj.pen hxs hrp (by rw [List.length_map]; omega) fun n' H3 st3' n1 n2 nl => ?_
    refine ⟨lf2 - dec n', xs ++ [n'], ⟨_, _, rfl⟩, (stj.trans st3').updL hrw st'.pen, by rw [upd_same, List.map_append]; rfl, by rw [List.length_append, hnj]; rfl, ?_, ?_, fun x hx => ?_⟩
    ·unfold dec
     by_cases h0 : 0 ≤ n'
     ·have := nl h0
      rw [decide_eq_true h0, if_pos rfl]; omega
     ·rw [decide_eq_false h0, if_neg (by decide)]; omega
    ·rw [cntR_succ, Int.natCast_add, dec_cnt]; omega
    ·rcases List.mem_append.mp hx with z | z
     ·exact hxi x z
     ·rw [List.mem_singleton.mp z]; exact ⟨n1, n2⟩
   ·rintro σ H2 ⟨lf2, xs, ⟨o92, o102, rfl⟩, stj, hxs, hnj, l0, lc, hxi⟩
    have hlr2 := stj.keep lr _ hlrp hlr'
    refine ⟨_, rfl, .inl ⟨rfl, _, SqL.of hlr2⟩, _, rfl, rw', xs.map V.int, rfl, .inl ⟨SqL.of hxs, fun t ht => ?_⟩⟩
    have s3 := same_upd (o := .tup (xs.map V.int)) ht
    have hlr3 := s3 _ _ hlr2
    refine ⟨lr, bs.map V.ref, _, rfl, rfl, hlr3, small1000 (by rw [List.length_map]; omega), ?_⟩
    have exA : Ext H' (upd (upd H2 t (.tup (xs.map V.int))) lr (.lst (bs.map V.ref ++ [.ref t]))) := ((stj.ext st'.pen).trans s3.ext).trans (Ext.updL hlr3)
    have htl : t ≠ lr := fun z => by rw [z, hlr2] at ht; cases ht
    refine ⟨lf2, bs ++ [t], g ++ [xs], ⟨_, _, _, _, rfl⟩, ((st'.trans stj).same s3).updL hHlr hp, by rw [upd_same, List.map_append]; rfl, Paired.snoc (hG.ext exA) (by rw [upd_ne htl, upd_same]), by rw [List.length_append, hn]; rfl, l0, ?_, fun ys hy => ?_, fun ys hy => ?_⟩
    ·rw [cntG_succ]; omega
    ·rcases List.mem_append.mp hy with z | z
     ·exact hlen ys z
     ·rw [List.mem_singleton.mp z]; exact hnj
    ·rcases List.mem_append.mp hy with z | z
     ·exact hnum ys z
     ·rw [List.mem_singleton.mp z]; exact hxi
  ·rintro σ H' ⟨lf, bs, g, ⟨o7, o8, o9, o10, rfl⟩, st', hlr', hG, hn, lf0, lfc, hlen, hnum⟩
   have hbs : bs.length = g.length := Paired.length hG
   have h1 : 1 ≤ g.length := by omega
   have h4 : g.length ≤ 4 := by omega
   refine ⟨_, rfl, _, rfl, rfl, _, rfl, ite2d (fun e10 => ?_) fun e10 => ?_⟩
   ·have e10' : lf = 10 := V.int.inj e10
    obtain ⟨b0, bs', rfl⟩ : ∃ b0 bs', bs = b0 :: bs' := List.exists_cons_of_ne_nil (fun z => by rw [z] at hbs; simp at hbs; omega)
    obtain ⟨xs0, g', rfl⟩ : ∃ xs0 g', g = xs0 :: g' := List.exists_cons_of_ne_nil (fun z => by rw [z] at h1; simp at h1)
    have hb0 : H' b0 = some (.tup (xs0.map V.int)) := by cases hG with | cons a b => exact a
    have hG' : RowsG H' bs' g' := by cases hG with | cons a b => exact b
    have hw0 := hlen xs0 List.mem_cons_self
    refine ⟨by show 1 ≤ sizeLine; decide, fun t3 ht3 => ?_⟩
    have s3 := same_upd (o := .tup [.int 3]) ht3
    refine ⟨_, rfl, lr, _, 0, .ref b0, rfl, rfl, SqL.of (s3 _ _ hlr'), atI_nat (j := 0) rfl, _, rfl, b0, xs0.map V.int, rfl, s3 _ _ hb0, fun c H4 s4 hc => ?_⟩
    rw [cutI xs0 (by omega)] at hc
    refine ⟨t3, c, [.int 3], _, rfl, rfl, s4 _ _ upd_same, hc, ?_, fun c2 H5 s5 hc2 => ?_⟩
    ·rw [List.length_map, List.length_drop, sizeLine_eq]; show 1 + _ ≤ _; omega
    have hlr5 := s5 _ _ (s4 _ _ (s3 _ _ hlr'))
    refine ⟨_, rfl, lr, _, 0, 0, rfl, rfl, hlr5, (by unfold ixN; rw [if_pos (by decide), if_pos (by simp)]; rfl), ?_⟩
    have exA : Ext H' (upd H5 lr (.lst (((b0 :: bs').map V.ref).set 0 (.ref c2)))) := ((s3.ext.trans s4.ext).trans s5.ext).trans (Ext.updL hlr5)
    refine ⟨_, rfl, lr, _, rfl, .inl ⟨SqL.of upd_same, fun tt htt => ?_⟩⟩
    have s6 := same_upd (o := .tup (((b0 :: bs').map V.ref).set 0 (.ref c2))) htt
    have hc2l : c2 ≠ lr := fun z => by rw [z, hlr5] at hc2; cases hc2
    have z0 : cntG (xs0 :: g') = 0 := by omega
    have z1 : cntR xs0 = 0 ∧ cntG g' = 0 := by
     unfold cntG at z0 ⊢
     rw [List.map_cons, List.sum_cons] at z0
     omega
    have zd : cntR (xs0.drop 1) = 0 := by
     have : (xs0.filter pos) = [] := List.length_eq_zero_iff.mp z1.1
     unfold cntR
     rw [List.length_eq_zero_iff, List.filter_eq_nil_iff]
     intro a ha
     exact List.filter_eq_nil_iff.mp this a (List.mem_of_mem_drop ha)
    have zc : cntG ((3 :: xs0.drop 1) :: g') = 1 := by
     have e1 : cntR (3 :: xs0.drop 1) = cntR (xs0.drop 1) + 1 := by unfold cntR; rw [List.filter_cons_of_pos (by decide), List.length_cons]
     unfold cntG
     rw [List.map_cons, List.sum_cons, e1, zd]
     have := z1.2
     unfold cntG at this
     omega
    refine q tt ((3 :: xs0.drop 1) :: g') (1 + d2).toNat _ ((((st'.same s3).same s4).same s5).updL hHlr hp |>.same s6) ⟨c2 :: bs', upd_same, .cons ?_ (hG'.ext (exA.trans s6.ext))⟩ ⟨by simp, by simpa using h4, by omega, by omega, fun ys hy => ?_, fun ys hy => ?_, by omega, by omega⟩
    ·exact s6 _ _ (by rw [upd_ne hc2l]; exact hc2)
    ·rcases List.mem_cons.mp hy with z | z
     ·rw [z, List.length_cons, List.length_drop]; omega
     ·exact hlen ys (List.mem_cons_of_mem _ z)
    ·rcases List.mem_cons.mp hy with z | z
     ·rw [z]
      intro n hn'
      rcases List.mem_cons.mp hn' with z' | z'
      ·omega
      ·exact hnum xs0 List.mem_cons_self n (List.mem_of_mem_drop z')
     ·exact hnum ys (List.mem_cons_of_mem _ z)
   ·refine ⟨_, rfl, lr, _, rfl, .inl ⟨SqL.of hlr', fun tt htt => ?_⟩⟩
    have s6 := same_upd (o := .tup (bs.map V.ref)) htt
    have e10' : lf ≠ 10 := fun z => e10 (by rw [z])
    exact q tt g (1 + d2).toNat _ (st'.same s6) ⟨bs, upd_same, hG.ext s6.ext⟩ ⟨h1, h4, by omega, by omega, hlen, hnum, by omega, by omega⟩
end
end M54
namespace L2
open PySem PySem.Spec PyProof.Rows
namespace HTr
open HT
section
variable {prog : Program} {w : World} {A : Around} {E : Value → Shared → Prop} {s : Shared}
end
end HTr
section
variable {X : Cx} {e st : Expr} {te ts : TE} {pos p2 : Pos}
end
end L2
namespace L2
open PySem PySem.Spec PyProof.Rows
section
variable {X : Cx} {e st : Expr} {te ts : TE} {pos p2 : Pos}
end
theorem sum_le {α : Type} {f : α → Nat} {b : Nat} : ∀ {l : List α}, (∀ x ∈ l, f x ≤ b) → (l.map f).sum ≤ b * l.length
 | [], _ => by simp
 | x :: l, h => by
  have ih := sum_le (f := f) (b := b) (l := l) fun y hy => h y (List.mem_cons_of_mem _ hy)
  have h0 := h x List.mem_cons_self
  rw [List.map_cons, List.sum_cons, List.length_cons, Nat.mul_succ]; omega
theorem join_len {sep : Str} {ts : List Str} {b : Nat} (h : ∀ t ∈ ts, t.length ≤ b) : (Txt.join sep ts).length ≤ (b + sep.length) * ts.length := by
 unfold Txt.join
 rw [size_glued]
 have h1 := sum_le (f := fun t : Str => t.length) h
 have h2 : (ts.length - 1) * sep.length ≤ sep.length * ts.length := by
  rw [Nat.mul_comm sep.length]
  exact Nat.mul_le_mul_right _ (Nat.sub_le _ _)
 have h3 : (b + sep.length) * ts.length = b * ts.length + sep.length * ts.length := Nat.add_mul _ _ _
 have h1' : (ts.map (·.length)).sum ≤ b * ts.length := h1
 omega
theorem join_fold (sep : Str) : ∀ (ts : List Str) (n : Nat), ts.foldl (· + ·.length + sep.length) n = n + (ts.map (·.length)).sum + sep.length * ts.length
 | [], n => by simp
 | t :: ts, n => by
  rw [List.foldl_cons, join_fold sep ts, List.map_cons, List.sum_cons, List.length_cons, Nat.mul_succ]; omega
theorem joinOk_of {sep : Str} {ts : List Str} {b : Nat} (h : ∀ t ∈ ts, t.length ≤ b) (hz : (b + sep.length) * ts.length ≤ 1000000) : JoinOk sep ts = true := by
 unfold JoinOk Builtin.Str.tooLong
 have h1 : (ts.map (·.length)).sum ≤ b * ts.length := sum_le (f := fun t : Str => t.length) h
 have e : ts.toArray.foldl (· + ·.length + sep.length) 0 = (ts.map (·.length)).sum + sep.length * ts.length := by
  rw [List.foldl_toArray, join_fold]; omega
 rw [e]
 have h3 : (b + sep.length) * ts.length = b * ts.length + sep.length * ts.length := Nat.add_mul _ _ _
 have : ¬ ((ts.map (·.length)).sum + sep.length * ts.length > sizeLine) := by rw [sizeLine_eq]; omega
 simpa using this
theorem dec_len {n : Int} (h1 : -2 ≤ n) (h2 : n ≤ 99) : (Str.ofString (toString n)).length ≤ 2 := by
 have key : ∀ k : Fin 102, (Str.ofString (toString ((k.val : Int) - 2))).length ≤ 2 := by decide +kernel
 have := key ⟨(n + 2).toNat, by omega⟩
 have e : (((⟨(n + 2).toNat, by omega⟩ : Fin 102).val : Nat) : Int) - 2 = n := by show ((n + 2).toNat : Int) - 2 = n; omega
 rw [e] at this
 exact this
theorem base_const (c : Const) (j : Nat) (p : Pos) (n : Str) (env : Env) (m : Sem Value) : attributeBase (.Constant c j p) n env m = m := by
 unfold attributeBase; rfl
section
variable {X : Cx} {e : Expr} {t : TA}
theorem pe_sjoin {a : Str} {j : Nat} {p apos cpos : Pos} (ha : PA X [e] t) (hline : (apos.endLine == cpos.line) = true := by rfl) (hs : starEach [e] X.env = [(false, eval e X.env)] := by rfl) :
  PE X (.Call (.Attribute (.Constant (.str a) j p) "join" apos) [e] [] cpos) (tBM X.K "str" (rJoin X.K) (tC (.str a)) t) :=
 pe_bm PySem.F.plainAttrs_str PySem.F.slot_str_join PySem.F.type_str_join mt_join pe_str ha (base_const _ _ _ _ _ _) (by rw [hs]; rfl) hline hs rfl
end
end L2
namespace M54
open PySem L2 PyProof.Rows
noncomputable def decS (n : Int) : Str := Str.ofString (toString n)
noncomputable def strV : V → V | .int n => .str (decS n) | v => v
noncomputable def listS (ns : List Int) : Str := Txt.join "," (ns.map decS)
noncomputable def textS (sep : Str) (g : Gr) : Str := Txt.join sep (g.map listS)
noncomputable def Sm (ns : List Int) : Prop := ns.length ≤ 5 ∧ ∀ n ∈ ns, -2 ≤ n ∧ n ≤ 99
noncomputable def SmG (g : Gr) : Prop := g.length ≤ 12 ∧ ∀ ns ∈ g, Sm ns
theorem Sm.dec {ns : List Int} (h : Sm ns) : ∀ t ∈ ns.map decS, t.length ≤ 2 := fun t ht => by
 obtain ⟨n, hn, rfl⟩ := List.mem_map.mp ht
 exact dec_len (h.2 n hn).1 (h.2 n hn).2
theorem Sm.len {ns : List Int} (h : Sm ns) : (listS ns).length ≤ 15 := by
 have := join_len (sep := ",") h.dec
 rw [List.length_map] at this
 have e : (",": Str).length = 1 := rfl
 have h1 := h.1
 unfold listS
 rw [e] at this
 have : (2 + 1) * ns.length ≤ (2 + 1) * 5 := Nat.mul_le_mul_left _ h1
 omega
theorem SmG.row {g : Gr} (h : SmG g) : ∀ t ∈ g.map listS, t.length ≤ 15 := fun t ht => by
 obtain ⟨ns, hn, rfl⟩ := List.mem_map.mp ht
 exact (h.2 ns hn).len
theorem SmG.len {g : Gr} {sep : Str} (h : SmG g) (hs : sep.length = 1) : (textS sep g).length ≤ 192 := by
 have := join_len (sep := sep) h.row
 rw [List.length_map, hs] at this
 have : (15 + 1) * g.length ≤ (15 + 1) * 12 := Nat.mul_le_mul_left _ h.1
 unfold textS
 omega
theorem log_small {n : Int} (h1 : -2 ≤ n) (h2 : n ≤ 99) : n.natAbs.log2 < 1920 := by
 have : n.natAbs < 2 ^ 7 := by omega
 have := Nat.log2_lt (n := n.natAbs) (k := 7)
 by_cases h0 : n.natAbs = 0
 ·rw [h0]; decide
 ·have := (Nat.log2_lt h0 (k := 7)).mpr (by omega)
  omega
noncomputable def spListed : Sp := fun vs H Q _ => ∃ a ns, vs = [.ref a] ∧ H a = some (.tup (ns.map V.int)) ∧ Sm ns ∧ ∀ H', Same H H' → Q (.str (listS ns)) H'
noncomputable def spTextOf (sep : Str) : Sp := fun vs H Q _ => ∃ a g, vs = [.ref a] ∧ GridAt H a g ∧ SmG g ∧ ∀ H', Same H H' → Q (.str (textS sep g)) H'
section
variable {P : Program} {w : World} {K : PySem.W.Frag} {mg : Str → Option Value} {base : Heap}
theorem scListed : FnScope ["_law_some"] ["_law_some"] (defScope sListed) := ⟨rfl, rfl, rfl, by decide +kernel, rfl, by decide +kernel, by decide +kernel⟩
theorem ok_listed {f : Addr} {fd : FuncData} (F : Fun K "_law_listed" "_law_listed" sListed f fd) (T : Txt mg) : FnOk P w K mg base CX0 1 f fd ["_law_some"] spListed := by
 refine F.ok scListed (fun vs H Q E h => ?_) (fun cdv A outer s H vs Q E hr h => ?_)
 ·obtain ⟨a, ns, rfl, _⟩ := h; rfl
 ·obtain ⟨a, ns, rfl, ha, hS, q⟩ := h
  refine ⟨_, pss_one (ps_ret (pe_sjoin (pa_lc (pe_comp1 (defScope sListed).names ["_law_some"] ["_law_one"] [] rfl (pi_tup (pv 0)) rfl rfl rfl (by decide +kernel)
   (fun Z => pg_name (i := 0) (show (["_law_one"] : List Str).Nodup by decide +kernel) rfl (Or.inl rfl)) (fun Z => pts_nil) (fun Z => pe_callTy call_str_int rfl T.str boot_str (pa_v (pv 0) pa_nil))) pa_nil))), ?_⟩
  refine ⟨rfl, _, rfl, a, rfl, ⟨_, SqT.of ha⟩, fun Z l hl => ?_⟩
  have h5 := hS.1
  refine comp_map strV ha hl (by rw [List.length_map]; omega) (fun x H' Q' hm hs hq => ?_) fun σ H' hs hl' => ?_
  ·obtain ⟨n, hn, rfl⟩ := List.mem_map.mp hm
   exact ⟨_, rfl, n, rfl, log_small (hS.2 n hn).1 (hS.2 n hn).2, hq _ (Same.refl _)⟩
  ·have e : (ns.map V.int).map strV = (ns.map decS).map V.str := by rw [List.map_map, List.map_map]; rfl
   rw [e] at hl'
   refine ⟨",", l, ns.map decS, rfl, rfl, SqL.of hl', joinOk_of hS.dec ?_, q H' hs⟩
   rw [List.length_map]
   have : (2 + (",": Str).length) * ns.length ≤ (2 + (",": Str).length) * 5 := Nat.mul_le_mul_left _ h5
   have e : (",": Str).length = 1 := rfl
   rw [e] at this ⊢
   omega
theorem comp_listed {a l : Addr} {bs : List Addr} {g : Gr} {te : TE} {H0 : Hp} {Q : L2.St → Hp → Prop} (ha : H0 a = some (.tup (bs.map V.ref))) (hG : RowsG H0 bs g) (hl : H0 l = none) (hz : bs.length ≤ 1000)
  (turn : ∀ (b : Addr) (ns : List Int) (H' : Hp) (Q' : VK), ns ∈ g → H' b = some (.tup (ns.map V.int)) → (∀ H2, Same H' H2 → Q' (.str (listS ns)) H2) → te [some (.ref b)] H' Q')
  (hQ : ∀ (σ : L2.St) (H' : Hp), Same H0 H' → H' l = some (.lst ((g.map listS).map V.str)) → Q σ H') :
  tForJ (Itt K a) (gName 0) (tBodyC tAll (tEmit l te)) (eC Q) [none] (upd H0 l (.lst [])) := by
 have hlen : bs.length = g.length := Paired.length hG
 refine for_tup (K := K) (a := a) (xs := bs.map V.ref) (fun i σ H' => σ.length = 1 ∧ Same H0 H' ∧ H' l = some (.lst (((g.take i).map listS).map V.str)))
  ⟨rfl, same_upd hl, by rw [upd_same]; rfl⟩ (fun i σ H' _ h => SqT.of (h.2.1 _ _ ha)) ?_ ?_
 ·rintro i x σ H' hx ⟨hσ, hs, hl'⟩
  match σ, hσ with
  | [x0], _ =>
  rw [List.getElem?_map] at hx
  cases hb : bs[i]? with
  | none => rw [hb] at hx; cases hx
  | some b =>
   rw [hb] at hx; cases hx
   obtain ⟨c, hc, he⟩ := hG.row hb
   have hil : i < bs.length := (List.getElem?_eq_some_iff.mp hb).1
   refine body_name ?_
   refine turn b c H' _ (List.mem_of_getElem? hc) (hs _ _ he) fun H2 s2 => ?_
   have hl2 := s2 _ _ hl'
   refine ⟨_, hl2, small1000 (by rw [List.length_map, List.length_map, List.length_take]; omega), rfl, fun b' u e' => ?_, ?_⟩
   ·rw [upd_ne (ne_of_none e' hl)]; exact s2 _ _ (hs _ _ e')
   ·rw [upd_same, List.take_succ, hc, List.map_append, List.map_append]; rfl
 ·rintro σ H' ⟨_, hs, hl'⟩
  rw [List.length_map, hlen, List.take_of_length_le (Nat.le_refl _)] at hl'
  exact hQ σ H' hs hl'
theorem text_ok {g : Gr} (hS : SmG g) {sep : Str} (hs : sep.length = 1) : JoinOk sep (g.map listS) = true := by
 refine joinOk_of hS.row ?_
 rw [List.length_map, hs]
 have : (15 + 1) * g.length ≤ (15 + 1) * 12 := Nat.mul_le_mul_left _ hS.1
 omega
theorem scMeadText : FnScope ["_law_mead_here"] ["_law_mead_here"] (defScope sMeadText) := ⟨rfl, rfl, rfl, by decide +kernel, rfl, by decide +kernel, by decide +kernel⟩
theorem ok_meadText {f g : Addr} {fd gd : FuncData} (F : Fun K "_law_mead_text" "_law_mead_text" sMeadText f fd) (a1 : At P w K mg base 1 "_law_listed" g gd ["_law_some"] spListed) : FnOk P w K mg base CX0 2 f fd ["_law_mead_here"] (spTextOf "/") := by
 refine F.ok scMeadText (fun vs H Q E h => ?_) (fun cdv A outer s H vs Q E hr h => ?_)
 ·obtain ⟨a, g, rfl, _⟩ := h; rfl
 ·obtain ⟨a, g, rfl, ⟨bs, ha, hG⟩, hS, q⟩ := h
  have hbl : bs.length = g.length := Paired.length hG
  have h12 := hS.1
  refine ⟨_, pss_one (ps_ret (pe_sjoin (pa_lc (pe_comp1 (defScope sMeadText).names ["_law_mead_here"] ["_law_row"] [] rfl (pi_tup (pv 0)) rfl rfl rfl (by decide +kernel)
   (fun Z => pg_name (i := 0) (show (["_law_row"] : List Str).Nodup by decide +kernel) rfl (Or.inl rfl)) (fun Z => pts_nil) (fun Z => pe_call a1.ok hr rfl a1.nm a1.kp a1.bd .nil pass0 (pa_v (pv 0) pa_nil))) pa_nil))), ?_⟩
  refine ⟨rfl, _, rfl, a, rfl, ⟨_, SqT.of ha⟩, fun Z l hl => ?_⟩
  refine comp_listed ha hG hl (by omega) (fun b ns H' Q' hn hb hq => ?_) fun σ H' hs hl' => ?_
  ·exact ⟨_, rfl, b, ns, rfl, hb, hS.2 ns hn, hq⟩
  ·exact ⟨"/", l, g.map listS, rfl, rfl, SqL.of hl', text_ok hS rfl, q H' hs⟩
theorem scClaimsText : FnScope ["_law_claims_here"] ["_law_claims_here"] (defScope sClaimsText) := ⟨rfl, rfl, rfl, by decide +kernel, rfl, by decide +kernel, by decide +kernel⟩
theorem ok_claimsText {f g : Addr} {fd gd : FuncData} (F : Fun K "_law_claims_text" "_law_claims_text" sClaimsText f fd) (a1 : At P w K mg base 1 "_law_listed" g gd ["_law_some"] spListed) : FnOk P w K mg base CX0 2 f fd ["_law_claims_here"] (spTextOf ";") := by
 refine F.ok scClaimsText (fun vs H Q E h => ?_) (fun cdv A outer s H vs Q E hr h => ?_)
 ·obtain ⟨a, g, rfl, _⟩ := h; rfl
 ·obtain ⟨a, g, rfl, ⟨bs, ha, hG⟩, hS, q⟩ := h
  have hbl : bs.length = g.length := Paired.length hG
  have h12 := hS.1
  refine ⟨_, pss_one (ps_ret (pe_sjoin (pa_lc (pe_comp1 (defScope sClaimsText).names ["_law_claims_here"] ["_law_claim"] [] rfl (pi_tup (pv 0)) rfl rfl rfl (by decide +kernel)
   (fun Z => pg_name (i := 0) (show (["_law_claim"] : List Str).Nodup by decide +kernel) rfl (Or.inl rfl)) (fun Z => pts_nil) (fun Z => pe_call a1.ok hr rfl a1.nm a1.kp a1.bd .nil pass0 (pa_v (pv 0) pa_nil))) pa_nil))), ?_⟩
  refine ⟨rfl, _, rfl, a, rfl, ⟨_, SqT.of ha⟩, fun Z l hl => ?_⟩
  refine comp_listed ha hG hl (by omega) (fun b ns H' Q' hn hb hq => ?_) fun σ H' hs hl' => ?_
  ·exact ⟨_, rfl, b, ns, rfl, hb, hS.2 ns hn, hq⟩
  ·exact ⟨";", l, g.map listS, rfl, rfl, SqL.of hl', text_ok hS rfl, q H' hs⟩
end
end M54
namespace M54
open PySem L2 PyProof.Rows
noncomputable def ent (c : C3) : List Key × V := ([Sum.inl c.1, Sum.inl c.2.1], .int c.2.2)
noncomputable def putC (es : List C3) (h s m : Int) : List C3 := if (es.any fun c => decide (key2 c = (h, s))) = true then es.map (fun c => if key2 c = (h, s) then (h, s, m) else c) else es ++ [(h, s, m)]
theorem key_eq {c : C3} {h s : Int} : (ent c).1 = [Sum.inl h, Sum.inl s] ↔ key2 c = (h, s) := by
 unfold ent key2
 constructor
 ·intro e
  have e1 := (List.cons.inj e).1
  have e2 := (List.cons.inj (List.cons.inj e).2).1
  rw [Sum.inl.inj e1, Sum.inl.inj e2]
 ·intro e
  rw [(Prod.mk.inj e).1, (Prod.mk.inj e).2]
theorem putK_ent (es : List C3) (h s m : Int) : putK (es.map ent) [Sum.inl h, Sum.inl s] (.int m) = (putC es h s m).map ent := by
 unfold putK putC
 have e1 : ((es.map ent).any fun kv => decide (kv.1 = [Sum.inl h, Sum.inl s])) = es.any fun c => decide (key2 c = (h, s)) := by
  rw [List.any_map]
  congr 1
  funext c
  exact decide_eq_decide.mpr key_eq
 rw [e1]
 split
 ·rw [List.map_map, List.map_map]
  refine List.map_congr_left fun c _ => ?_
  show (if (ent c).1 = [Sum.inl h, Sum.inl s] then ((ent c).1, V.int m) else ent c) = ent (if key2 c = (h, s) then (h, s, m) else c)
  by_cases e : key2 c = (h, s)
  ·rw [if_pos (key_eq.mpr e), if_pos e, key_eq.mpr e]; rfl
  ·rw [if_neg (fun z => e (key_eq.mp z)), if_neg e]
 ·rw [List.map_append]; rfl
theorem putC_keys (es : List C3) (h s m : Int) (hn : (es.map key2).Nodup) : ((putC es h s m).map key2).Nodup := by
 unfold putC
 by_cases hany : (es.any fun c => decide (key2 c = (h, s))) = true
 ·rw [if_pos hany, List.map_map]
  have : es.map (key2 ∘ fun c => if key2 c = (h, s) then (h, s, m) else c) = es.map key2 := List.map_congr_left fun c _ => by
   show key2 (if key2 c = (h, s) then (h, s, m) else c) = key2 c
   by_cases e : key2 c = (h, s)
   ·rw [if_pos e, e]; rfl
   ·rw [if_neg e]
  rw [this]; exact hn
 ·rw [if_neg hany, List.map_append]
  refine List.nodup_append.mpr ⟨hn, by simp, fun a ha b hb e => hany ?_⟩
  have hb' : b = (h, s) := by simpa [key2] using hb
  obtain ⟨c, hc, rfl⟩ := List.mem_map.mp ha
  exact List.any_eq_true.mpr ⟨c, hc, decide_eq_true (e.trans hb')⟩
theorem putC_all {es : List C3} {h s m : Int} {B : C3 → Prop} (ha : ∀ c ∈ es, B c) (hb : B (h, s, m)) : ∀ c ∈ putC es h s m, B c := by
 unfold putC
 intro c hc
 by_cases hany : (es.any fun c => decide (key2 c = (h, s))) = true
 ·rw [if_pos hany] at hc
  obtain ⟨d, hd, rfl⟩ := List.mem_map.mp hc
  by_cases e : key2 d = (h, s)
  ·rw [if_pos e]; exact hb
  ·rw [if_neg e]; exact ha d hd
 ·rw [if_neg hany] at hc
  rcases List.mem_append.mp hc with z | z
  ·exact ha c z
  ·rw [List.mem_singleton.mp z]; exact hb
theorem putC_len (es : List C3) (h s m : Int) : (putC es h s m).length ≤ es.length + 1 ∧ 1 ≤ (putC es h s m).length := by
 unfold putC
 by_cases hany : (es.any fun c => decide (key2 c = (h, s))) = true
 ·rw [if_pos hany, List.length_map]
  refine ⟨by omega, ?_⟩
  obtain ⟨c, hc, _⟩ := List.any_eq_true.mp hany
  exact List.length_pos_of_mem hc
 ·rw [if_neg hany, List.length_append]
  simp
noncomputable def row (c : C3) : List Int := [c.1, c.2.1, c.2.2]
noncomputable def unrow : List Int → C3 | [a, b, c] => (a, b, c) | _ => (0, 0, 0)
theorem lt_of_rows {a b : C3} (h : HT.lexLt (row b) (row a) = false) (hn : key2 a ≠ key2 b) : lt2 (key2 a) (key2 b) = true := by
 obtain ⟨a1, a2, a3⟩ := a
 obtain ⟨b1, b2, b3⟩ := b
 unfold row at h
 unfold lt2 key2
 unfold key2 at hn
 dsimp only at h hn ⊢
 rw [HT.lexLt_cons, HT.lexLt_cons] at h ⊢
 by_cases e1 : a1 = b1
 ·subst e1
  rw [if_pos rfl] at h ⊢
  by_cases e2 : a2 = b2
  ·subst e2; exact absurd rfl hn
  ·rw [if_neg (fun z => e2 z.symm), decide_eq_false_iff_not] at h
   rw [if_neg e2, decide_eq_true_eq]; omega
 ·rw [if_neg (fun z => e1 z.symm), decide_eq_false_iff_not] at h
  rw [if_neg e1, decide_eq_true_eq]; omega
theorem clOk_of {es : List C3} {zs zs' : List (Addr × List Int)} (hz : zs.map (·.2) = es.map row) (hs : Sorted2 zs zs') (h1 : 1 ≤ es.length) (h12 : es.length ≤ 12) (hb : ∀ c ∈ es, (0 ≤ c.1 ∧ c.1 ≤ 3) ∧ (0 ≤ c.2.1 ∧ c.2.1 ≤ 5) ∧ 1 ≤ c.2.2 ∧ c.2.2 ≤ 20) (hn : (es.map key2).Nodup) :
  ClOk (zs'.map fun z => unrow z.2) ∧ (zs'.map fun z => unrow z.2).Perm es ∧ ∀ z ∈ zs', z.2 = row (unrow z.2) := by
 have hlen : zs.length = es.length := by have := congrArg List.length hz; simpa using this
 have e0 : zs.map (fun z => unrow z.2) = es := by
  have : zs.map (fun z => unrow z.2) = (zs.map (·.2)).map unrow := by rw [List.map_map]; rfl
  rw [this, hz, List.map_map]
  exact List.map_id' es
 have hp : (zs'.map fun z => unrow z.2).Perm es := by rw [← e0]; exact hs.1.map _
 have hrow : ∀ z ∈ zs', z.2 = row (unrow z.2) := fun z hz' => by
  have hm : z.2 ∈ zs.map (·.2) := List.mem_map_of_mem (hs.1.mem_iff.mp hz')
  rw [hz] at hm
  obtain ⟨c, _, e⟩ := List.mem_map.mp hm
  rw [← e]; rfl
 have hl' : (zs'.map fun z => unrow z.2).length = es.length := hp.length_eq
 refine ⟨⟨by omega, by omega, fun c hc => hb c (hp.mem_iff.mp hc), ?_⟩, hp, hrow⟩
 have nd : ((zs'.map fun z => unrow z.2).map key2).Nodup := ((hp.map key2).nodup_iff).mpr hn
 rw [List.map_map] at nd ⊢
 rw [List.nodup_iff_pairwise_ne, List.pairwise_map] at nd
 rw [List.pairwise_map]
 have both := hs.2.and nd
 rw [List.pairwise_iff_getElem] at both ⊢
 intro i j hi hj hij
 have b := both i j hi hj hij
 have r1 := hrow _ (List.getElem_mem hi)
 have r2 := hrow _ (List.getElem_mem hj)
 have b1 := b.1
 rw [r1, r2] at b1
 exact lt_of_rows b1 b.2
end M54
namespace L2
open PySem PySem.Spec PyProof.Rows
theorem Stp.updO {p d : Addr} {H H1 : Hp} {o : HO} (s : Stp p H H1) (hd : H d = none) (hp : PenAt H p) : Stp p H (upd H1 d o) := by
 obtain ⟨x, f, e⟩ := hp
 have hne : p ≠ d := ne_of_none e hd
 obtain ⟨x', f', e'⟩ := s.pen
 exact ⟨⟨x', f', by rw [upd_ne hne]; exact e'⟩, fun b o hb h => by rw [upd_ne (ne_of_none h hd)]; exact s.keep b o hb h⟩
theorem Stp.none {p b : Addr} {H H1 : Hp} (s : Stp p H H1) (h : H1 b = Option.none) : H b = Option.none ∧ b ≠ p := by
 have hb : b ≠ p := fun z => by
  obtain ⟨x, f, e⟩ := s.pen
  rw [z, e] at h; cases h
 refine ⟨?_, hb⟩
 cases e : H b with
 | none => rfl
 | some o => rw [s.keep b o hb e] at h; cases h
theorem for_items {d : Addr} {o : Obj} {kvs : List (List Key × V)} {g : TG} {tb : TS} {D : Ends} {σ : St} {H : Hp} (Pv : Nat → St → Hp → Prop) (h0 : Pv 0 σ H) (hl : ∀ i σ H, Pv i σ H → H d = some (.frz o (.dT kvs)))
  (hs : ∀ i k x p b σ H, kvs[i]? = some (k, x) → Pv i σ H → H p = none → H b = some (.tup (k.map kV)) → g (.ref p) σ (upd H p (.tup [.ref b, x])) fun σ2 H2 => tb { D with nx := Pv (i + 1), ct := Pv (i + 1), bk := D.nx } σ2 H2) (hd : ∀ σ H, Pv kvs.length σ H → D.nx σ H) :
  tForJ (Itm d o kvs) g tb D σ H := by
 refine ⟨fun i m σ H => m = kvs.length - i ∧ i ≤ kvs.length ∧ Pv i σ H, ⟨kvs.length, by simp, Nat.zero_le _, h0⟩, ?_⟩
 rintro i m σ H ⟨rfl, hi, p⟩
 by_cases hlt : i < kvs.length
 ·refine .inr ⟨⟨hl i σ H p, hlt⟩, Pv (i + 1), fun σ' H' p' => ⟨kvs.length - (i + 1), by omega, rfl, hlt, p'⟩, fun x H' y => ?_⟩
  obtain ⟨pp, b, k, x', e1, e2, e3, e4, e5⟩ := y
  subst e1 e3
  exact hs i k x' pp b σ H e4 p e2 e5
 ·have e : i = kvs.length := by omega
  subst e
  exact .inl ⟨⟨hl _ σ H p, rfl⟩, hd σ H p⟩
end L2
namespace M54
open PySem L2 PyProof.Rows
noncomputable def spClaimsL : Sp := fun vs H Q _ => ∃ p, vs = [.ref p] ∧ PenAt H p ∧ ∀ a cl H', Stp p H H' → ClT H' a cl → ClOk cl → Q (.ref a) H'
noncomputable abbrev nCL : List Str := ["_law_pen_here", "_law_found", "_law_lap"]
section
variable {P : Program} {w : World} {K : PySem.W.Frag} {mg : Str → Option Value} {base : Heap}
theorem scClaimsL : FnScope nCL ["_law_pen_here"] (defScope sClaimsL) := ⟨rfl, rfl, rfl, by decide +kernel, rfl, by decide +kernel, by decide +kernel⟩
theorem ndPM : (["_law_pair", "_law_many"] : List Str).Nodup := by decide +kernel
theorem ok_claimsL {f g1 : Addr} {fd d1 : FuncData} (F : Fun K "_law_claims" "_law_claims" sClaimsL f fd) (T : Txt mg) (a1 : At P w K mg base 1 "_law_draw" g1 d1 ["_law_pen_here", "_law_many"] spDraw) : FnOk P w K mg base CX0 2 f fd ["_law_pen_here"] spClaimsL := by
 refine F.ok scClaimsL (fun vs H Q E h => ?_) (fun cdv A outer s H vs Q E hr h => ?_)
 ·obtain ⟨p, rfl, _⟩ := h; rfl
 ·obtain ⟨p, rfl, hp, q⟩ := h
  have nd := scClaimsL.nd
  have hu : (A.deeper (envOfC "_law_claims" (defScope sClaimsL) s.heap.objs.size f cdv)).units + 1 < cLine := hu_of hr
  refine ⟨_, pss_cons (ps_set (i := 1) nd rfl (Or.inl rfl) pe_dnewT) <|
   pss_cons (ps_for PassesOwn.never rfl (pi_range1 rfl T.range (pa_s (pe_ix ix_list (pe_lst (pa_b (pe_op op_add pe_int (pe_call a1.ok hr rfl a1.nm a1.kp a1.bd .nil pass0 (pa_v (pv 0) (pa_c pe_int pa_nil)))) (pa_b (pe_op op_add pe_int (pe_call a1.ok hr rfl a1.nm a1.kp a1.bd .nil pass0 (pa_v (pv 0) (pa_c pe_int pa_nil)))) pa_nil))) (pe_call a1.ok hr rfl a1.nm a1.kp a1.bd .nil pass0 (pa_v (pv 0) (pa_c pe_int pa_nil))) (fun _ _ => rfl)) pa_nil)) (pg_name (i := 2) nd rfl (Or.inl rfl))
    (pss_one (ps_dput hu (pv 1) (pe_tup (pa_k (pe_call a1.ok hr rfl a1.nm a1.kp a1.bd .nil pass0 (pa_v (pv 0) (pa_c pe_int pa_nil))) (pa_k (pe_call a1.ok hr rfl a1.nm a1.kp a1.bd .nil pass0 (pa_v (pv 0) (pa_c pe_int pa_nil))) pa_nil))) (pe_op op_add pe_int (pe_call a1.ok hr rfl a1.nm a1.kp a1.bd .nil pass0 (pa_v (pv 0) (pa_c pe_int pa_nil)))) rfl))) <|
   pss_one (ps_ret (pe_callTy call_tuple_of rfl T.tuple boot_tuple (pa_k (pe_callB call_sortedT rfl T.sorted boot_sorted (pa_lc (pe_comp1 (defScope sClaimsL).names nCL ["_law_pair", "_law_many"] [] rfl (pi_items (pv 1)) rfl rfl rfl (by decide +kernel)
    (fun Z => pg_tup rfl (pgs_cons (pg_name (i := 0) ndPM rfl (Or.inl rfl)) (pgs_cons (pg_name (i := 1) ndPM rfl (Or.inl rfl)) pgs_nil))) (fun Z => pts_nil) (fun Z => pe_op op_catU (pv 0) (pe_tup (pa_v (pv 1) pa_nil)))) pa_nil)) pa_nil))), ?_⟩
  intro d hd
  have st0 : Stp p H (upd H d (.dT [])) := (Stp.refl hp).updO hd hp
  refine ⟨_, rfl, p, 4, rfl, st0.pen, by decide, by decide, fun e1 H1 e10 e11 st1 => ?_⟩
  refine ⟨_, _, rfl, rfl, _, rfl, p, 12, rfl, st1.pen, by decide, by decide, fun e2 H2 e20 e21 st2 => ?_⟩
  refine ⟨_, _, rfl, rfl, by show 2 ≤ sizeLine; decide, fun t0 ht0 => ?_⟩
  have sL := same_upd (o := .lst [.int (1 + e1), .int (1 + e2)]) ht0
  have st3 : Stp p (upd H d (.dT [])) (upd H2 t0 (.lst [.int (1 + e1), .int (1 + e2)])) := (st1.trans st2).same sL
  have ht0n := (st1.trans st2).none ht0
  refine ⟨_, rfl, p, 2, rfl, st3.pen, by decide, by decide, fun e3 H3 e30 e31 st4 => ?_⟩
  have hdp : d ≠ p := fun z => by
   obtain ⟨x, y, e⟩ := hp
   rw [z, e] at hd; cases hd
  obtain ⟨dn, hat, d0, d1'⟩ : ∃ dn : Int, atI [V.int (1 + e1), V.int (1 + e2)] e3 = some (.int dn) ∧ 1 ≤ dn ∧ dn ≤ 12 := by
   have : e3 = 0 ∨ e3 = 1 := by omega
   rcases this with rfl | rfl
   ·exact ⟨1 + e1, atI_nat (j := 0) rfl, by omega, by omega⟩
   ·exact ⟨1 + e2, atI_nat (j := 1) rfl, by omega, by omega⟩
  refine ⟨t0, _, e3, _, rfl, rfl, SqL.of (st4.keep t0 _ ht0n.2 upd_same), hat, dn, rfl, by omega, by omega, ?_⟩
  have stB := st3.trans st4
  refine for_range (lo := 0) (n := dn.toNat) (fun i σ H' => (∃ o4, σ = [some (.ref p), some (.ref d), o4]) ∧ Stp p H H' ∧ ∃ es : List C3, H' d = some (.dT (es.map ent)) ∧ (es.map key2).Nodup ∧ (∀ x ∈ es, (0 ≤ x.1 ∧ x.1 ≤ 3) ∧ (0 ≤ x.2.1 ∧ x.2.1 ≤ 5) ∧ 1 ≤ x.2.2 ∧ x.2.2 ≤ 20) ∧ es.length ≤ i ∧ (1 ≤ i → 1 ≤ es.length))
   ⟨⟨_, rfl⟩, st0.trans stB, [], stB.keep d _ hdp upd_same, List.nodup_nil, (fun x hx => by cases hx), Nat.le_refl _, fun z => by omega⟩ ?_ ?_
  ·rintro i σ H' hi ⟨⟨o4, rfl⟩, st, es, hd', hn, hb, hlen, _⟩
   refine ⟨_, rfl, p, 20, rfl, st.pen, by decide, by decide, fun m H4 m0 m1 st5 => ?_⟩
   refine ⟨_, _, rfl, rfl, ?_⟩
   have st6 := st.trans st5
   refine ⟨_, rfl, _, rfl, p, 4, rfl, st6.pen, by decide, by decide, fun hh H5 h0 h1' st7 => ?_⟩
   have st8 := st6.trans st7
   refine ⟨_, rfl, p, 6, rfl, st8.pen, by decide, by decide, fun sn H6 s0 s1 st9 => ?_⟩
   have st10 := st8.trans st9
   have hd6 : H6 d = some (.dT (es.map ent)) := st9.keep d _ hdp (st7.keep d _ hdp (st5.keep d _ hdp hd'))
   refine ⟨by show 2 ≤ sizeLine; decide, fun k hk => ?_⟩
   have hkd : d ≠ k := fun z => by rw [← z, hd6] at hk; cases hk
   have hd8 : (upd H6 k (.tup [.int hh, .int sn])) d = some (.dT (es.map ent)) := by rw [upd_ne hkd]; exact hd6
   have hkt : (upd H6 k (.tup [.int hh, .int sn])) k = some (.tup (([Sum.inl hh, Sum.inl sn] : List Key).map kV)) := by rw [upd_same]; rfl
   refine ⟨d, _, rfl, DPut.t hd8 hkt (by rw [List.length_map]; exact small1000 (by omega)), ?_⟩
   rw [putK_ent]
   have hl2 := putC_len es hh sn (1 + m)
   refine ⟨⟨_, rfl⟩, (st10.same (same_upd hk)).updO hd hp, putC es hh sn (1 + m), upd_same, putC_keys es hh sn _ hn, putC_all hb ⟨⟨h0, by show hh ≤ 3; omega⟩, ⟨s0, by show sn ≤ 5; omega⟩, by show 1 ≤ 1 + m; omega, by show 1 + m ≤ 20; omega⟩, by omega, fun _ => hl2.2⟩
  ·rintro σ H' ⟨⟨o4, rfl⟩, st, es, hd', hn, hb, hlen, h1⟩
   have hel : es.length ≤ 12 := by omega
   have he1 : 1 ≤ es.length := h1 (by omega)
   refine ⟨_, rfl, d, _, rfl, hd', fun o Z l hl0 => ?_⟩
   have stf : Stp p H (upd H' d (.frz o (.dT (es.map ent)))) := st.updO hd hp
   have hln := stf.none hl0
   have hld : l ≠ d := fun z => by rw [z, upd_same] at hl0; cases hl0
   refine for_items (fun i σ H2 => σ.length = 2 ∧ H2 d = some (.frz o (.dT (es.map ent))) ∧ Stp p H H2 ∧ ∃ zs : List (Addr × List Int), H2 l = some (.lst (zs.map fun z => V.ref z.1)) ∧ zs.map (·.2) = (es.take i).map row ∧ ∀ z ∈ zs, H2 z.1 = some (.tup (z.2.map V.int)))
    ⟨rfl, by rw [upd_ne hld.symm, upd_same], stf.updO hln.1 hp, [], by rw [upd_same]; rfl, rfl, fun z hz => by cases hz⟩ (fun i σ H2 h => h.2.1) ?_ ?_
   ·rintro i k x pp b σ H2 hki ⟨hσ, hfz, st2, zs, hl2, hzr, hza⟩ hpp hb2
    match σ, hσ with
    | [x0, x1], _ =>
    rw [List.getElem?_map] at hki
    cases hei : es[i]? with
    | none => rw [hei] at hki; cases hki
    | some cc =>
    rw [hei] at hki
    have hke : ent cc = (k, x) := Option.some.inj hki
    have ek : k = [Sum.inl cc.1, Sum.inl cc.2.1] := (Prod.mk.inj hke).1.symm
    have ex : x = V.int cc.2.2 := (Prod.mk.inj hke).2.symm
    subst ek ex
    have hi : i < es.length := (List.getElem?_eq_some_iff.mp hei).1
    have hzl : zs.length ≤ i := by
     have := congrArg List.length hzr
     rw [List.length_map, List.length_map, List.length_take] at this; omega
    have s3 := same_upd (o := .tup [.ref b, .int cc.2.2]) hpp
    refine ⟨pp, _, rfl, SqT.of upd_same, rfl, _, _, rfl, _, _, rfl, rfl, ?_⟩
    refine body_all ?_
    refine ⟨_, rfl, _, rfl, by show 1 ≤ sizeLine; decide, fun t ht => ?_⟩
    have s4 := same_upd (o := .tup [.int cc.2.2]) ht
    refine ⟨b, t, _, [.int cc.2.2], rfl, rfl, s4 _ _ (s3 _ _ hb2), upd_same, by show 2 + 1 ≤ sizeLine; decide, fun u H5 s5 hu5 => ?_⟩
    have s35 := (s3.trans s4).trans s5
    have hl5 := s35 _ _ hl2
    refine ⟨_, hl5, small1000 (by rw [List.length_map]; omega), rfl, ?_, (st2.same s35).updO hln.1 hp, zs ++ [(u, row cc)], ?_, ?_, fun z hz => ?_⟩
    ·rw [upd_ne hld.symm]; exact s35 _ _ hfz
    ·rw [upd_same, List.map_append]; rfl
    ·rw [List.map_append, hzr, List.take_succ, hei, List.map_append]; rfl
    ·have up : ∀ a xs, H5 a = some (.tup xs) → (upd H5 l (.lst (zs.map (fun z => V.ref z.1) ++ [.ref u]))) a = some (.tup xs) := fun a xs e => by rw [upd_ne (fun z => by rw [z, hl5] at e; cases e)]; exact e
     rcases List.mem_append.mp hz with z' | z'
     ·exact up _ _ (s35 _ _ (hza z z'))
     ·rw [List.mem_singleton.mp z']; exact up _ _ hu5
   ·rintro σ H2 ⟨_, _, st2, zs, hl2, hzr, hza⟩
    rw [List.length_map, List.take_of_length_le (Nat.le_refl _)] at hzr
    have hzl : zs.length = es.length := by
     have := congrArg List.length hzr
     simpa using this
    refine ⟨l, zs, rfl, SqL.of hl2, fun z hz => ⟨hza z hz, fun e => ?_⟩, by omega, fun l2 zs' hl3 hs2 => ?_⟩
    ·have hm : z.2 ∈ es.map row := by rw [← hzr]; exact List.mem_map_of_mem hz
     obtain ⟨c', _, e'⟩ := List.mem_map.mp hm
     rw [← e'] at e; cases e
    have s3 := same_upd (o := .lst (zs'.map fun z => V.ref z.1)) hl3
    obtain ⟨gO, gP, gR⟩ := clOk_of hzr hs2 he1 (by omega) (fun x hx => hb x hx) hn
    refine ⟨l2, _, rfl, .inl ⟨SqL.of upd_same, fun a ha => ?_⟩⟩
    have s4 := same_upd (o := .tup (zs'.map fun z => V.ref z.1)) ha
    refine q a (zs'.map fun z => unrow z.2) _ ((st2.same s3).same s4) ⟨zs'.map (·.1), by rw [upd_same, List.map_map]; rfl, ?_⟩ gO
    have go : ∀ ys : List (Addr × List Int), (∀ z ∈ ys, z ∈ zs') → ClP (upd (upd H2 l2 (.lst (zs'.map fun z => V.ref z.1))) a (.tup (zs'.map fun z => V.ref z.1))) (ys.map (·.1)) (ys.map fun z => unrow z.2) := fun ys => by
     induction ys with
     | nil => intro _; exact .nil
     | cons y ys ih =>
      intro hy
      refine .cons ?_ (ih fun z hz => hy z (List.mem_cons_of_mem _ hz))
      have hy' := hy y List.mem_cons_self
      have e := hza y (hs2.1.mem_iff.mp hy')
      rw [gR y hy'] at e
      exact s4 _ _ (s3 _ _ e)
    exact go zs' fun z hz => hz
end
end M54
namespace M54
open PySem L2 PyProof.Rows
noncomputable def spChk (C : Addr) (good : Hp → V → Bool) : Sp := fun vs H Q E => ∃ v, vs = [v] ∧ Kn H 3 v ∧ (good H v = true → ∀ H', Same H H' → Q .non H') ∧ (good H v = false → ∀ H', Same H H' → E (.ref C) none H')
noncomputable def spShown (C : Addr) (sep : Str) (good : Hp → V → Bool) : Sp := fun vs H Q E => ∃ v, vs = [v] ∧ Kn H 3 v ∧ ((good H v = true ∧ ∃ a g, v = .ref a ∧ GridAt H a g ∧ SmG g ∧ ∀ H', Same H H' → Q (.str (textS sep g)) H') ∨ (good H v = false ∧ ∀ H', Same H H' → E (.ref C) none H'))
section
variable {P : Program} {w : World} {K : PySem.W.Frag} {mg : Str → Option Value} {base : Heap}
theorem scChkMead : FnScope ["mead"] ["mead"] (defScope sChkMead) := ⟨rfl, rfl, rfl, by decide +kernel, rfl, by decide +kernel, by decide +kernel⟩
theorem scChkClaims : FnScope ["claims"] ["claims"] (defScope sChkClaims) := ⟨rfl, rfl, rfl, by decide +kernel, rfl, by decide +kernel, by decide +kernel⟩
theorem ok_chkMead {f g C : Addr} {fd gd : FuncData} (F : Fun K "check_mead" "check_mead" sChkMead f fd) (a1 : At P w K mg base 4 "is_mead" g gd ["thing"] spMead) (mC : mg "NoMead" = some (.ref C)) (c : ExcC K C) : FnOk P w K mg base (CX1 P w) 5 f fd ["mead"] (spChk C goodM) := by
 refine F.okX scChkMead (fun vs H Q E h => ?_) (fun cdv A outer s H vs Q E hr h => ?_)
 ·obtain ⟨v, rfl, _⟩ := h; rfl
 ·obtain ⟨v, rfl, kn, q1, q2⟩ := h
  refine ⟨_, pss_one (ps_if (pt_not (pt_val (pe_call a1.ok hr rfl a1.nm a1.kp a1.bd .nil pass0 (pa_v (pv 0) pa_nil)))) (pss_one (ps_raise (E := E) rfl rfl rfl rfl rfl rfl mC c)) pss_nil), ?_⟩
  refine ⟨_, rfl, v, rfl, kn, fun H1 s1 => ⟨_, rfl, iteB (fun e => ?_) fun e => ?_⟩⟩
  ·exact q2 (by simpa using e) H1 s1
  ·exact q1 (by simpa using e) H1 s1
theorem ok_chkClaims {f g C : Addr} {fd gd : FuncData} (F : Fun K "check_claims" "check_claims" sChkClaims f fd) (a1 : At P w K mg base 4 "are_claims" g gd ["thing"] spClaims) (mC : mg "NoClaims" = some (.ref C)) (c : ExcC K C) : FnOk P w K mg base (CX1 P w) 5 f fd ["claims"] (spChk C clsV) := by
 refine F.okX scChkClaims (fun vs H Q E h => ?_) (fun cdv A outer s H vs Q E hr h => ?_)
 ·obtain ⟨v, rfl, _⟩ := h; rfl
 ·obtain ⟨v, rfl, kn, q1, q2⟩ := h
  refine ⟨_, pss_one (ps_if (pt_not (pt_val (pe_call a1.ok hr rfl a1.nm a1.kp a1.bd .nil pass0 (pa_v (pv 0) pa_nil)))) (pss_one (ps_raise (E := E) rfl rfl rfl rfl rfl rfl mC c)) pss_nil), ?_⟩
  refine ⟨_, rfl, v, rfl, kn, fun H1 s1 => ⟨_, rfl, iteB (fun e => ?_) fun e => ?_⟩⟩
  ·exact q2 (by simpa using e) H1 s1
  ·exact q1 (by simpa using e) H1 s1
theorem scShNums : FnScope ["numbers"] ["numbers"] (defScope sShNums) := ⟨rfl, rfl, rfl, by decide +kernel, rfl, by decide +kernel, by decide +kernel⟩
theorem ok_shNums {f : Addr} {fd : FuncData} (F : Fun K "shown_numbers" "shown_numbers" sShNums f fd) (T : Txt mg) : FnOk P w K mg base CX0 1 f fd ["numbers"] spListed := by
 refine F.ok scShNums (fun vs H Q E h => ?_) (fun cdv A outer s H vs Q E hr h => ?_)
 ·obtain ⟨a, ns, rfl, _⟩ := h; rfl
 ·obtain ⟨a, ns, rfl, ha, hS, q⟩ := h
  refine ⟨_, pss_one (ps_ret (pe_sjoin (pa_lc (pe_comp1 (defScope sShNums).names ["numbers"] ["number"] [] rfl (pi_tup (pv 0)) rfl rfl rfl (by decide +kernel)
   (fun Z => pg_name (i := 0) (show (["number"] : List Str).Nodup by decide +kernel) rfl (Or.inl rfl)) (fun Z => pts_nil) (fun Z => pe_callTy call_str_int rfl T.str boot_str (pa_v (pv 0) pa_nil))) pa_nil))), ?_⟩
  refine ⟨rfl, _, rfl, a, rfl, ⟨_, SqT.of ha⟩, fun Z l hl => ?_⟩
  have h5 := hS.1
  refine comp_map strV ha hl (by rw [List.length_map]; omega) (fun x H' Q' hm hs hq => ?_) fun σ H' hs hl' => ?_
  ·obtain ⟨n, hn, rfl⟩ := List.mem_map.mp hm
   exact ⟨_, rfl, n, rfl, log_small (hS.2 n hn).1 (hS.2 n hn).2, hq _ (Same.refl _)⟩
  ·have e : (ns.map V.int).map strV = (ns.map decS).map V.str := by rw [List.map_map, List.map_map]; rfl
   rw [e] at hl'
   refine ⟨",", l, ns.map decS, rfl, rfl, SqL.of hl', joinOk_of hS.dec ?_, q H' hs⟩
   rw [List.length_map]
   have : (2 + (",": Str).length) * ns.length ≤ (2 + (",": Str).length) * 5 := Nat.mul_le_mul_left _ h5
   have e : (",": Str).length = 1 := rfl
   rw [e] at this ⊢
   omega
theorem scShMead : FnScope ["mead"] ["mead"] (defScope sShMead) := ⟨rfl, rfl, rfl, by decide +kernel, rfl, by decide +kernel, by decide +kernel⟩
theorem ok_shMead {f g g2 C : Addr} {fd gd gd2 : FuncData} (F : Fun K "shown_mead" "shown_mead" sShMead f fd) (a1 : AtX P w K mg base 5 "check_mead" g gd ["mead"] (spChk C goodM)) (a2 : At P w K mg base 1 "shown_numbers" g2 gd2 ["numbers"] spListed) : FnOk P w K mg base (CX1 P w) 6 f fd ["mead"] (spShown C "/" goodM) := by
 refine F.okX scShMead (fun vs H Q E h => ?_) (fun cdv A outer s H vs Q E hr h => ?_)
 ·obtain ⟨v, rfl, _⟩ := h; rfl
 ·obtain ⟨v, rfl, kn, q⟩ := h
  refine ⟨_, pss_cons (ps_expr (pe_call a1.ok hr rfl a1.nm a1.kp a1.bd .nil pass1 (pa_v (pv 0) pa_nil))) <|
   pss_one (ps_ret (pe_sjoin (pa_lc (pe_comp1 (defScope sShMead).names ["mead"] ["row"] [] rfl (pi_tup (pv 0)) rfl rfl rfl (by decide +kernel)
   (fun Z => pg_name (i := 0) (show (["row"] : List Str).Nodup by decide +kernel) rfl (Or.inl rfl)) (fun Z => pts_nil) (fun Z => pe_call a2.ok (hr.mono (by decide)) rfl a2.nm a2.kp a2.bd .nil pass0 (pa_v (pv 0) pa_nil))) pa_nil))), ?_⟩
  rcases q with ⟨hgd, a, g, rfl, ⟨bs, ha, hG⟩, hS, q⟩ | ⟨hbd, q⟩
  ·refine ⟨_, rfl, _, rfl, kn, fun _ H1 s1 => ?_, fun e => by rw [hgd] at e; cases e⟩
   have hbl : bs.length = g.length := Paired.length hG
   have h12 := hS.1
   have ha1 := s1 _ _ ha
   refine ⟨rfl, _, rfl, a, rfl, ⟨_, SqT.of ha1⟩, fun Z l hl => ?_⟩
   refine comp_listed ha1 (hG.ext s1.ext) hl (by omega) (fun b ns H' Q' hn hb hq => ?_) fun σ H' hs hl' => ?_
   ·exact ⟨_, rfl, b, ns, rfl, hb, hS.2 ns hn, hq⟩
   ·exact ⟨"/", l, g.map listS, rfl, rfl, SqL.of hl', text_ok hS rfl, q H' (s1.trans hs)⟩
  ·exact ⟨_, rfl, _, rfl, kn, (fun e => by rw [hbd] at e; cases e), fun _ H1 s1 => q H1 s1⟩
theorem scShClaims : FnScope ["claims"] ["claims"] (defScope sShClaims) := ⟨rfl, rfl, rfl, by decide +kernel, rfl, by decide +kernel, by decide +kernel⟩
theorem ok_shClaims {f g g2 C : Addr} {fd gd gd2 : FuncData} (F : Fun K "shown_claims" "shown_claims" sShClaims f fd) (a1 : AtX P w K mg base 5 "check_claims" g gd ["claims"] (spChk C clsV)) (a2 : At P w K mg base 1 "shown_numbers" g2 gd2 ["numbers"] spListed) : FnOk P w K mg base (CX1 P w) 6 f fd ["claims"] (spShown C ";" clsV) := by
 refine F.okX scShClaims (fun vs H Q E h => ?_) (fun cdv A outer s H vs Q E hr h => ?_)
 ·obtain ⟨v, rfl, _⟩ := h; rfl
 ·obtain ⟨v, rfl, kn, q⟩ := h
  refine ⟨_, pss_cons (ps_expr (pe_call a1.ok hr rfl a1.nm a1.kp a1.bd .nil pass1 (pa_v (pv 0) pa_nil))) <|
   pss_one (ps_ret (pe_sjoin (pa_lc (pe_comp1 (defScope sShClaims).names ["claims"] ["claim"] [] rfl (pi_tup (pv 0)) rfl rfl rfl (by decide +kernel)
   (fun Z => pg_name (i := 0) (show (["claim"] : List Str).Nodup by decide +kernel) rfl (Or.inl rfl)) (fun Z => pts_nil) (fun Z => pe_call a2.ok (hr.mono (by decide)) rfl a2.nm a2.kp a2.bd .nil pass0 (pa_v (pv 0) pa_nil))) pa_nil))), ?_⟩
  rcases q with ⟨hgd, a, g, rfl, ⟨bs, ha, hG⟩, hS, q⟩ | ⟨hbd, q⟩
  ·refine ⟨_, rfl, _, rfl, kn, fun _ H1 s1 => ?_, fun e => by rw [hgd] at e; cases e⟩
   have hbl : bs.length = g.length := Paired.length hG
   have h12 := hS.1
   have ha1 := s1 _ _ ha
   refine ⟨rfl, _, rfl, a, rfl, ⟨_, SqT.of ha1⟩, fun Z l hl => ?_⟩
   refine comp_listed ha1 (hG.ext s1.ext) hl (by omega) (fun b ns H' Q' hn hb hq => ?_) fun σ H' hs hl' => ?_
   ·exact ⟨_, rfl, b, ns, rfl, hb, hS.2 ns hn, hq⟩
   ·exact ⟨";", l, g.map listS, rfl, rfl, SqL.of hl', text_ok hS rfl, q H' (s1.trans hs)⟩
  ·exact ⟨_, rfl, _, rfl, kn, (fun e => by rw [hbd] at e; cases e), fun _ H1 s1 => q H1 s1⟩
end
end M54
namespace Spj
open PySem PySem.StrLaws Builtin Builtin.Str
noncomputable def sep (c : Nat) : Str := ⟨#[c]⟩
theorem at_one (x : Str) (c i : Nat) : At x (sep c) x.length i ↔ x.cps.toList[i]? = some c := subAt_one x c i
theorem occ_go (x : Str) (c : Nat) : ∀ (m k : Nat) (st : Array Nat × Nat), st.2 ≤ k → st.1.size ≤ k → k + m ≤ x.length + 1 →
  ∀ i, (i ∈ st.1.toList ∨ (k ≤ i ∧ i < k + m ∧ x.cps.toList[i]? = some c)) → i ∈ (forIn (List.range' k m) st (occBody x (sep c) x.length (x.length + 1))).run.fst.toList
 | 0, k, st, _, _, _, i, h => by
  rcases h with h | ⟨h1, h2, _⟩
  ·exact h
  ·omega
 | m + 1, k, st, h1, h2, h3, i, h => by
  rw [List.range'_succ, List.forIn_cons]
  by_cases ha : x.cps.toList[k]? = some c
  ·have hA := (at_one x c k).mpr ha
   have cnd : ((st.fst.size < x.length + 1 ∧ st.snd ≤ k) ∧ k + (sep c).length ≤ x.length) ∧ subAt x (sep c) k = true := ⟨⟨⟨by omega, h1⟩, hA.1⟩, hA.2⟩
   have e : occBody x (sep c) x.length (x.length + 1) k st = pure (ForInStep.yield (st.fst.push k, k + (sep c).length)) := by unfold occBody; rw [if_pos cnd]
   rw [e]
   refine occ_go x c m (k + 1) _ ?_ ?_ (by omega) i ?_
   ·show k + 1 ≤ k + 1; omega
   ·show (st.fst.push k).size ≤ k + 1
    rw [Array.size_push]; omega
   ·show i ∈ (st.fst.push k).toList ∨ _
    rw [Array.toList_push]
    rcases h with h | ⟨g1, g2, g3⟩
    ·exact .inl (List.mem_append_left _ h)
    ·by_cases hi : i = k
     ·exact .inl (List.mem_append_right _ (by rw [hi]; exact List.mem_singleton.mpr rfl))
     ·exact .inr ⟨by omega, by omega, g3⟩
  ·have cnd : ¬ (((st.fst.size < x.length + 1 ∧ st.snd ≤ k) ∧ k + (sep c).length ≤ x.length) ∧ subAt x (sep c) k = true) := fun z => ha ((at_one x c k).mp ⟨z.1.2, z.2⟩)
   have e : occBody x (sep c) x.length (x.length + 1) k st = pure (ForInStep.yield (st.fst, st.snd)) := by unfold occBody; rw [if_neg cnd]
   rw [e]
   refine occ_go x c m (k + 1) _ (by show st.2 ≤ k + 1; omega) (by show st.1.size ≤ k + 1; omega) (by omega) i ?_
   rcases h with h | ⟨g1, g2, g3⟩
   ·exact .inl h
   ·have : i ≠ k := fun z => ha (z ▸ g3)
    exact .inr ⟨by omega, by omega, g3⟩
theorem occ_all {x : Str} {c i : Nat} (h : x.cps.toList[i]? = some c) : i ∈ occurrences x (sep c) 0 x.length (x.length + 1) := by
 rw [occ_eq]
 have hi : i < x.length := by
  have := (List.getElem?_eq_some_iff.mp h).1
  rw [Array.length_toList] at this; exact this
 exact occ_go x c (x.length + 1 - 0) 0 (#[], 0) (Nat.le_refl _) (by simp) (by omega) i (.inr ⟨Nat.zero_le _, by omega, h⟩)
theorem chain_ge {x : Str} {c : Nat} : ∀ {cuts : List Nat} {a f : Nat}, ChainTo x (sep c) x.length a cuts f → ∀ j ∈ cuts, a ≤ j
 | [], _, _, _, j, h => by cases h
 | d :: r, a, f, h, j, hj => by
  rcases List.mem_cons.mp hj with rfl | hj
  ·exact h.1
  ·have := chain_ge h.2.2 j hj
   have := h.1
   omega
theorem parts_free {x : Str} {c : Nat} : ∀ {cuts : List Nat} {a f : Nat}, ChainTo x (sep c) x.length a cuts f → (∀ j, a ≤ j → x.cps.toList[j]? = some c → j ∈ cuts) → ∀ p ∈ partsFrom x 1 a cuts, c ∉ p.cps.toList
 | [], a, f, _, hall, p, hp => by
  rw [show partsFrom x 1 a [] = [strSub x a x.length] from rfl, List.mem_singleton] at hp
  subst hp
  rw [strSub_toList]
  intro hc
  obtain ⟨k, hk, e⟩ := List.getElem_of_mem (List.mem_of_mem_take hc)
  have := hall (a + k) (by omega) (by rw [← List.getElem?_drop, List.getElem?_eq_getElem hk, e])
  cases this
 | d :: r, a, f, h, hall, p, hp => by
  rcases List.mem_cons.mp (show p ∈ strSub x a d :: partsFrom x 1 (d + 1) r from hp) with rfl | hp
  ·rw [strSub_toList]
   intro hc
   obtain ⟨k, hk, e⟩ := List.getElem_of_mem hc
   rw [List.length_take, List.length_drop] at hk
   rw [List.getElem_take, List.getElem_drop] at e
   have hx : x.cps.toList[a + k]? = some c := by rw [List.getElem?_eq_getElem (by omega), e]
   have := hall (a + k) (by omega) hx
   rcases List.mem_cons.mp this with z | z
   ·omega
   ·have g := chain_ge h.2.2 _ z
    have : (sep c).length = 1 := rfl
    omega
  ·refine parts_free (a := d + 1) h.2.2 (fun j hj hx => ?_) p hp
   have h1 := h.1
   rcases List.mem_cons.mp (hall j (by omega) hx) with z | z
   ·omega
   ·exact z
theorem split_free {x : Str} {c : Nat} (hc : c < 256) : ∀ p ∈ Txt.split x (sep c), c ∉ p.cps.toList := by
 intro p hp
 unfold Txt.split at hp
 have kind : Builtin.Str.strKind (sep c) = 1 := by
  unfold Builtin.Str.strKind
  rw [if_pos (by show (#[c] : Array Nat).all (· < 256) = true; simpa using hc)]
 split at hp
 ·rename_i h
  rw [List.mem_singleton.mp hp]
  rw [kind] at h
  have hk : ¬ Builtin.Str.strKind x < 1 := by
   unfold Builtin.Str.strKind
   split
   ·omega
   ·split <;> omega
  rw [decide_eq_false hk, Bool.or_false, decide_eq_true_eq] at h
  have hl : x.length = 0 := by have : (sep c).length = 1 := rfl; omega
  intro z
  obtain ⟨i, hi, _⟩ := List.getElem_of_mem z
  rw [Array.length_toList] at hi
  have : x.cps.size = 0 := hl
  omega
 ·split at hp
  ·rename_i h
   rw [List.mem_singleton.mp hp]
   intro z
   obtain ⟨i, hi, e⟩ := List.getElem_of_mem z
   have := occ_all (x := x) (c := c) (i := i) (by rw [List.getElem?_eq_getElem hi, e])
   rw [List.isEmpty_iff.mp h] at this
   cases this
  ·rw [partsBetween_eq] at hp
   obtain ⟨f, ch⟩ := occ_chain x (sep c) (x.length + 1)
   exact parts_free ch (fun j _ hx => occ_all hx) p hp
theorem cut_eq {c : Nat} : ∀ {a b u v : List Nat}, c ∉ a → c ∉ b → a ++ c :: u = b ++ c :: v → a = b ∧ u = v
 | [], [], u, v, _, _, h => ⟨rfl, (List.cons.inj h).2⟩
 | [], y :: b, u, v, _, hb, h => absurd (show c ∈ y :: b by rw [(List.cons.inj h).1]; exact List.mem_cons_self) hb
 | x :: a, [], u, v, ha, _, h => absurd (show c ∈ x :: a by rw [(List.cons.inj h).1]; exact List.mem_cons_self) ha
 | x :: a, y :: b, u, v, ha, hb, h => by
  have e := List.cons.inj h
  obtain ⟨e1, e2⟩ := cut_eq (fun z => ha (List.mem_cons_of_mem _ z)) (fun z => hb (List.mem_cons_of_mem _ z)) e.2
  rw [e.1, e1]; exact ⟨rfl, e2⟩
theorem join_two (c : Nat) (x y : Str) (r : List Str) : (Str.join (sep c) (x :: y :: r)).cps.toList = x.cps.toList ++ c :: (Str.join (sep c) (y :: r)).cps.toList := by
 show (x ++ sep c ++ Str.join (sep c) (y :: r)).cps.toList = _
 rw [PySem.Str.cps_append, PySem.Str.cps_append, Array.toList_append, Array.toList_append, List.append_assoc]; rfl
theorem join_inj {c : Nat} : ∀ {ps qs : List Str}, ps ≠ [] → qs ≠ [] → (∀ p ∈ ps, c ∉ p.cps.toList) → (∀ q ∈ qs, c ∉ q.cps.toList) → (Str.join (sep c) ps).cps.toList = (Str.join (sep c) qs).cps.toList → ps = qs
 | [], _, h, _, _, _, _ => absurd rfl h
 | _ :: _, [], _, h, _, _, _ => absurd rfl h
 | [x], [y], _, _, _, _, h => by
  have : x = y := PySem.Str.ext' (Array.toList_inj.mp h)
  rw [this]
 | [x], y :: z :: r, _, _, hp, _, h => by
  rw [join_two] at h
  have h' : x.cps.toList = y.cps.toList ++ c :: (Str.join (sep c) (z :: r)).cps.toList := h
  exact absurd (show c ∈ x.cps.toList by rw [h']; simp) (hp x List.mem_cons_self)
 | x :: z :: r, [y], _, _, _, hq, h => by
  rw [join_two] at h
  have h' : x.cps.toList ++ c :: (Str.join (sep c) (z :: r)).cps.toList = y.cps.toList := h
  exact absurd (show c ∈ y.cps.toList by rw [← h']; simp) (hq y List.mem_cons_self)
 | x :: x2 :: r, y :: y2 :: r', _, _, hp, hq, h => by
  rw [join_two, join_two] at h
  obtain ⟨e1, e2⟩ := cut_eq (hp x List.mem_cons_self) (hq y List.mem_cons_self) h
  have ih := join_inj (ps := x2 :: r) (qs := y2 :: r') (by simp) (by simp) (fun p h => hp p (List.mem_cons_of_mem _ h)) (fun q h => hq q (List.mem_cons_of_mem _ h)) e2
  have : x = y := PySem.Str.ext' (Array.toList_inj.mp e1)
  rw [this, ih]
theorem split_join {c : Nat} (hc : c < 256) {ts : List Str} (hne : ts ≠ []) (hf : ∀ t ∈ ts, c ∉ t.cps.toList) : Txt.split (Txt.join (sep c) ts) (sep c) = ts := by
 have e : Txt.join (sep c) ts = Str.join (sep c) ts := glued_eq_join _ _
 rw [e]
 refine join_inj (c := c) (fun z => ?_) hne (split_free hc) hf (by rw [join_split])
 have := L2.split_size (Str.join (sep c) ts) (sep c)
 have h1 : 1 ≤ (Txt.split (Str.join (sep c) ts) (sep c)).length := by
  unfold Txt.split
  split
  ·exact Nat.le_refl _
  ·split
   ·exact Nat.le_refl _
   ·rw [length_partsBetween]; omega
 rw [z] at h1
 cases h1
end Spj
namespace M54
open PySem L2 PyProof.Rows Grd
noncomputable def small : List Int := (List.range 102).map fun k : Nat => (k : Int) - 2
theorem mem_small {n : Int} (h1 : -2 ≤ n) (h2 : n ≤ 99) : n ∈ small := by
 unfold small
 rw [List.mem_map]
 exact ⟨(n + 2).toNat, List.mem_range.mpr (by omega), by omega⟩
noncomputable def okNum (n : Int) : Bool := wr (decS n) && (decide (intText? (decS n) = some n) && ((decS n).cps.toList.all fun c => !(c == 44) && (!(c == 47) && !(c == 59))))
theorem small_ok : small.all okNum = true := by decide +kernel
theorem num_ok {n : Int} (h1 : -2 ≤ n) (h2 : n ≤ 99) : wr (decS n) = true ∧ numI (decS n) = n ∧ ∀ c ∈ (decS n).cps.toList, c ≠ 44 ∧ c ≠ 47 ∧ c ≠ 59 := by
 have h := List.all_eq_true.mp small_ok n (mem_small h1 h2)
 unfold okNum at h
 rw [Bool.and_eq_true, Bool.and_eq_true, decide_eq_true_eq] at h
 refine ⟨h.1, by unfold numI; rw [h.2.1]; rfl, fun c hc => ?_⟩
 have := List.all_eq_true.mp h.2.2 c hc
 simpa using this
theorem sep44 : ("," : Str) = Spj.sep 44 := by decide +kernel
theorem sep47 : ("/" : Str) = Spj.sep 47 := by decide +kernel
theorem sep59 : (";" : Str) = Spj.sep 59 := by decide +kernel
theorem words_listS {ns : List Int} (hne : ns ≠ []) (h : ∀ n ∈ ns, -2 ≤ n ∧ n ≤ 99) : wordsOf (listS ns) = ns.map decS := by
 unfold wordsOf listS
 rw [sep44]
 refine Spj.split_join (by decide) (by simpa using hne) fun t ht => ?_
 obtain ⟨n, hn, rfl⟩ := List.mem_map.mp ht
 exact fun z => ((num_ok (h n hn).1 (h n hn).2).2.2 44 z).1 rfl
theorem join_chars {c k : Nat} : ∀ {ts : List Str}, (∀ t ∈ ts, ∀ x ∈ t.cps.toList, x ≠ k) → c ≠ k → ∀ x ∈ (Str.join (Spj.sep c) ts).cps.toList, x ≠ k
 | [], _, _, x, hx => by
  have e : Str.join (Spj.sep c) [] = ⟨#[]⟩ := rfl
  rw [e] at hx; cases hx
 | [t], h, _, x, hx => by
  have e : Str.join (Spj.sep c) [t] = t := rfl
  rw [e] at hx
  exact h t List.mem_cons_self x hx
 | t :: u :: r, h, hc, x, hx => by
  rw [Spj.join_two] at hx
  rcases List.mem_append.mp hx with z | z
  ·exact h t List.mem_cons_self x z
  ·rcases List.mem_cons.mp z with z | z
   ·rw [z]; exact hc
   ·exact join_chars (fun t' ht' => h t' (List.mem_cons_of_mem _ ht')) hc x z
theorem listS_chars {k : Nat} {ns : List Int} (h : ∀ n ∈ ns, -2 ≤ n ∧ n ≤ 99) (hk : k = 47 ∨ k = 59) : k ∉ (listS ns).cps.toList := by
 unfold listS
 rw [sep44, show Txt.join (Spj.sep 44) (ns.map decS) = Str.join (Spj.sep 44) (ns.map decS) from StrLaws.glued_eq_join _ _]
 intro hx
 refine join_chars (k := k) (fun t ht x hx => ?_) (by omega) k hx rfl
 obtain ⟨n, hn, rfl⟩ := List.mem_map.mp ht
 have := (num_ok (h n hn).1 (h n hn).2).2.2 x hx
 omega
theorem read_back {sep : Str} {k : Nat} {g : Gr} (hs : sep = Spj.sep k) (hk : k = 47 ∨ k = 59) (hne : g ≠ []) (hr : ∀ ns ∈ g, ns ≠ [] ∧ ∀ n ∈ ns, -2 ≤ n ∧ n ≤ 99) : okT sep (textS sep g) = true ∧ gridOf sep (textS sep g) = g := by
 have e : rowsOf sep (textS sep g) = g.map fun ns => ns.map decS := by
  unfold rowsOf textS
  rw [hs, Spj.split_join (by omega) (by simpa using hne) (fun t ht => by
   obtain ⟨ns, hn, rfl⟩ := List.mem_map.mp ht
   exact listS_chars (hr ns hn).2 hk), List.map_map]
  refine List.map_congr_left fun ns hn => ?_
  exact words_listS (hr ns hn).1 (hr ns hn).2
 constructor
 ·unfold okT
  rw [e, List.all_map, List.all_eq_true]
  intro ns hn
  show (ns.map decS).all wr = true
  rw [List.all_map, List.all_eq_true]
  intro n hm
  exact (num_ok ((hr ns hn).2 n hm).1 ((hr ns hn).2 n hm).2).1
 ·unfold gridOf
  rw [e, List.map_map]
  have : (g.map fun ns => (ns.map decS).map numI) = g.map id := List.map_congr_left fun ns hn => by
   rw [List.map_map]
   have e2 : (ns.map fun n => numI (decS n)) = ns.map id := List.map_congr_left fun n hm => (num_ok ((hr ns hn).2 n hm).1 ((hr ns hn).2 n hm).2).2.1
   rw [List.map_id] at e2
   exact e2
  rw [List.map_id] at this
  exact this
theorem cnt_eq (g : Grid) : (g.map cntK).sum = cntG g := rfl
theorem good_mead {g : Grid} {w : Nat} (h : Good g w) : meadG g = true := by
 obtain ⟨h1, h4, w1, w5, len, num, c1, c10⟩ := h
 unfold meadG
 have hrow : g.all rowG = true := List.all_eq_true.mpr fun xs hx => by
  unfold rowG
  have hl := len xs hx
  rw [decide_eq_true (show 1 ≤ xs.length by omega), decide_eq_true (show xs.length ≤ 6 by omega)]
  show xs.all (numB (-2) 99) = true
  refine List.all_eq_true.mpr fun n hn => ?_
  have := num xs hx n hn
  unfold numB
  rw [decide_eq_true this.1, decide_eq_true this.2]; rfl
 have hh : (g.headD []).length = w := by
  cases g with
  | nil => simp at h1
  | cons x xs => exact len x List.mem_cons_self
 have hlen : g.all (fun xs => decide (xs.length = (g.headD []).length)) = true := List.all_eq_true.mpr fun xs hx => by
  rw [hh]; exact decide_eq_true (len xs hx)
 rw [cnt_eq, hrow, hlen, decide_eq_true h1, decide_eq_true h4, decide_eq_true c1, decide_eq_true c10]; rfl
theorem lexLt_row {a b : C3} (h : lt2 (key2 a) (key2 b) = true) : HT.lexLt ((row a).take 2) ((row b).take 2) = true := by
 obtain ⟨a1, a2, a3⟩ := a
 obtain ⟨b1, b2, b3⟩ := b
 exact h
theorem good_claims {cl : List C3} (h : ClOk cl) : clsG (cl.map row) = true := by
 unfold clsG
 have h1 := h.l1
 have h12 := h.l12
 rw [List.length_map, decide_eq_true h1, decide_eq_true h12]
 have e1 : (cl.map row).all claimG = true := by
  rw [List.all_map, List.all_eq_true]
  intro c hc
  have := h.num c hc
  show (numB 0 3 c.1 && (numB 0 5 c.2.1 && numB 1 20 c.2.2)) = true
  unfold numB
  rw [decide_eq_true this.1.1, decide_eq_true this.1.2, decide_eq_true this.2.1.1, decide_eq_true this.2.1.2, decide_eq_true this.2.2.1, decide_eq_true this.2.2.2]; rfl
 rw [e1]
 show upL _ = true
 unfold upL
 rw [decide_eq_true_eq, List.map_map, List.pairwise_map]
 have hs := h.up
 rw [List.pairwise_map] at hs
 exact hs.imp fun {a b} z => lexLt_row z
end M54
namespace M54
open PySem L2 PyProof.Rows
noncomputable def flatEq (a b : V) : Prop := a = b ∧ ((∃ i, a = .int i) ∨ ∃ x, a = .str x)
noncomputable def SameV (H : Hp) : Nat → V → V → Prop
 | 0, a, b => flatEq a b
 | n + 1, a, b => flatEq a b ∨ ∃ p q xs ys, a = .ref p ∧ b = .ref q ∧ ((H p = some (.lst xs) ∧ H q = some (.lst ys)) ∨ (H p = some (.tup xs) ∧ H q = some (.tup ys))) ∧ xs.length ≤ 1000 ∧ Paired (SameV H n) xs ys
theorem SameV.same {H H' : Hp} (s : Same H H') : ∀ {n : Nat} {a b : V}, SameV H n a b → SameV H' n a b
 | 0, _, _, h => h
 | n + 1, a, b, h => by
  rcases h with h | ⟨p, q, xs, ys, h1, h2, h3, h4, h5⟩
  ·exact .inl h
  ·refine .inr ⟨p, q, xs, ys, h1, h2, ?_, h4, Paired.mapP h5 fun _ _ z => SameV.same s z⟩
   rcases h3 with ⟨u, v⟩ | ⟨u, v⟩
   ·exact .inl ⟨s _ _ u, s _ _ v⟩
   ·exact .inr ⟨s _ _ u, s _ _ v⟩
theorem SameV.int {H : Hp} (n : Nat) (i : Int) : SameV H n (.int i) (.int i) := by cases n with | zero => exact ⟨rfl, .inl ⟨i, rfl⟩⟩ | succ n => exact .inl ⟨rfl, .inl ⟨i, rfl⟩⟩
theorem SameV.str {H : Hp} (n : Nat) (x : Str) : SameV H n (.str x) (.str x) := by cases n with | zero => exact ⟨rfl, .inr ⟨x, rfl⟩⟩ | succ n => exact .inl ⟨rfl, .inr ⟨x, rfl⟩⟩
noncomputable def spSame (n : Nat) : Sp := fun vs H Q _ => ∃ a b, vs = [a, b] ∧ SameV H n a b ∧ ∀ H', Same H H' → Q (.bl true) H'
theorem pairedGet {α β : Type} {F : α → β → Prop} : ∀ {l₁ : List α} {l₂ : List β} {i : Nat} {a : α} {b : β}, Paired F l₁ l₂ → l₁[i]? = some a → l₂[i]? = some b → F a b
 | _, _, 0, _, _, .cons r _, h1, h2 => by cases h1; cases h2; exact r
 | _, _, i + 1, _, _, .cons _ t, h1, h2 => pairedGet (i := i) t (by simpa using h1) (by simpa using h2)
section
variable {P : Program} {w : World} {K : PySem.W.Frag} {mg : Str → Option Value} {base : Heap}
theorem scSame : FnScope ["_law_thing", "_law_due"] ["_law_thing", "_law_due"] (defScope sSame) := ⟨rfl, rfl, rfl, by decide +kernel, rfl, by decide +kernel, by decide +kernel⟩
theorem ndOO : (["_law_one", "_law_other"] : List Str).Nodup := by decide +kernel
theorem same_step {f : Addr} {fd : FuncData} {k : Nat} {spR : Sp} (F : Fun K "_law_same" "_law_same" sSame f fd) (T : Txt mg) (mS : mg "_law_same" = some (.ref f)) (bS : L2.Binds K fd ["_law_thing", "_law_due"] [])
  (G : FnOk P w K mg base CX0 k f fd ["_law_thing", "_law_due"] spR) (SR : Hp → V → V → Prop) (hSR : ∀ H H', Same H H' → ∀ a b, SR H a b → SR H' a b) (hR : ∀ a b H Q E, SR H a b → (∀ H', Same H H' → Q (.bl true) H') → spR [a, b] H Q E) :
  FnOk P w K mg base CX0 (k + 1) f fd ["_law_thing", "_law_due"] (fun vs H Q _ => ∃ a b, vs = [a, b] ∧ (flatEq a b ∨ ∃ p q xs ys, a = .ref p ∧ b = .ref q ∧ ((H p = some (.lst xs) ∧ H q = some (.lst ys)) ∨ (H p = some (.tup xs) ∧ H q = some (.tup ys))) ∧ xs.length ≤ 1000 ∧ Paired (SR H) xs ys) ∧ ∀ H', Same H H' → Q (.bl true) H') := by
 refine F.ok scSame (fun vs H Q E h => ?_) (fun cdv A outer s H vs Q E hr h => ?_)
 ·obtain ⟨a, b, rfl, _⟩ := h; rfl
 ·obtain ⟨a, b, rfl, hS, q⟩ := h
  refine ⟨_, pss_cons (ps_if (pt_val (pe_callB call_isinstTs rfl T.isinstance boot_isinstance (pa_v (pv 1) (pa_t (pe_tup (pa_v (pe_bltn (v := .ty "list") rfl T.list boot_list rfl) (pa_v (pe_bltn (v := .ty "tuple") rfl T.tuple boot_tuple rfl) pa_nil))) pa_nil))))
    (pss_cons (ps_if (PW.pt (pw_or (pt_not (pt_val (pe_callB call_isinstTs rfl T.isinstance boot_isinstance (pa_v (pv 0) (pa_t (pe_tup (pa_v (pe_bltn (v := .ty "list") rfl T.list boot_list rfl) (pa_v (pe_bltn (v := .ty "tuple") rfl T.tuple boot_tuple rfl) pa_nil))) pa_nil)))))
      (pw_or1 (pt_cmpR op_ne (pe_callB call_isinst rfl T.isinstance boot_isinstance (pa_v (pv 0) (pa_v (pe_bltn (v := .ty "list") rfl T.list boot_list rfl) pa_nil))) (pe_callB call_isinst rfl T.isinstance boot_isinstance (pa_v (pv 1) (pa_v (pe_bltn (v := .ty "list") rfl T.list boot_list rfl) pa_nil))) (nomark _))))) (pss_one (ps_ret pe_bl)) pss_nil) <|
    pss_cons (ps_if (pt_cmpR op_ne (pe_callB call_len_seq rfl T.len PySem.boot_len (pa_v (pv 0) pa_nil)) (pe_callB call_len_seq rfl T.len PySem.boot_len (pa_v (pv 1) pa_nil)) (nomark _)) (pss_one (ps_ret pe_bl)) pss_nil) <|
    pss_one (ps_ret (pe_callB (call_all rfl) rfl T.all boot_all (pa_lc (pe_comp1 (defScope sSame).names ["_law_thing", "_law_due"] ["_law_one", "_law_other"] [] rfl (PI.or (pi_zip kL_ok rfl T.zip (pa_v (pv 0) (pa_v (pv 1) pa_nil))) (pi_zip kT_ok rfl T.zip (pa_v (pv 0) (pa_v (pv 1) pa_nil)))) rfl rfl rfl (by decide +kernel)
      (fun Z => pg_tup rfl (pgs_cons (pg_name (i := 0) ndOO rfl (Or.inl rfl)) (pgs_cons (pg_name (i := 1) ndOO rfl (Or.inl rfl)) pgs_nil))) (fun Z => pts_nil) (fun Z => pe_call G hr rfl mS F.kp bS .nil pass0 (pa_v (pv 0) (pa_v (pv 1) pa_nil)))) pa_nil)))) pss_nil) <|
   pss_cons (ps_if (pt_cmpR op_isN (pv 1) pe_non (nomark _)) (pss_one (ps_ret (pe_cmpR op_isN (pv 0) pe_non (nomark _)))) pss_nil) <|
   pss_one (ps_ret (pe_and (pe_cmpR op_eq (pe_callB call_isinst rfl T.isinstance boot_isinstance (pa_v (pv 0) (pa_v (pe_bltn (v := .ty "bool") rfl T.bool boot_bool rfl) pa_nil))) (pe_callB call_isinst rfl T.isinstance boot_isinstance (pa_v (pv 1) (pa_v (pe_bltn (v := .ty "bool") rfl T.bool boot_bool rfl) pa_nil))) (nomark _)) (pe_one (pe_cmpR op_eq (pv 0) (pv 1) (nomark _))))), ?_⟩
  rcases hS with ⟨rfl, hf⟩ | ⟨p, qq, xs, ys, rfl, rfl, hpq, hz, hP⟩
  ·-- a number or a text
   obtain ⟨ty, hty, hT, hk, hb, hnn, hsc⟩ : ∃ ty, TyOf K H a ty ∧ (∃ T, ty = .type T) ∧ PySem.W.kitAny K ty (["list", "tuple"].map Value.type) = some false ∧ PySem.W.kitOne K ty (.type "bool") = some false ∧ a ≠ .non ∧ scal a a = true := by
    rcases hf with ⟨i, rfl⟩ | ⟨x, rfl⟩
    ·exact ⟨_, .int i, ⟨_, rfl⟩, by kernel_rfl, by kernel_rfl, (fun z => by cases z), rfl⟩
    ·exact ⟨_, .str x, ⟨_, rfl⟩, by kernel_rfl, by kernel_rfl, (fun z => by cases z), rfl⟩
   refine ⟨_, rfl, by show 2 ≤ sizeLine; decide, fun t ht => ?_⟩
   have s1 := same_upd (o := .tup [.ty "list", .ty "tuple"]) ht
   have hty1 : ∃ ty, TyOf K (upd H t (.tup [.ty "list", .ty "tuple"])) a ty ∧ (∃ T, ty = .type T) ∧ PySem.W.kitAny K ty (["list", "tuple"].map Value.type) = some false ∧ PySem.W.kitOne K ty (.type "bool") = some false := by
    rcases hf with ⟨i, rfl⟩ | ⟨x, rfl⟩
    ·exact ⟨_, .int i, ⟨_, rfl⟩, by kernel_rfl, by kernel_rfl⟩
    ·exact ⟨_, .str x, ⟨_, rfl⟩, by kernel_rfl, by kernel_rfl⟩
   obtain ⟨ty1, a1, a2, a3, a4⟩ := hty1
   refine ⟨_, t, ty1, false, ["list", "tuple"], rfl, upd_same, a1, a2, a3, _, rfl, iteF ?_⟩
   refine ⟨_, rfl, rfl, _, rfl, ?_⟩
   rw [decide_eq_false hnn]
   refine iteF ?_
   refine ⟨_, rfl, _, "bool", ty1, false, rfl, a1, a4, _, rfl, _, "bool", ty1, false, rfl, a1, a4, rfl, _, rfl, ?_⟩
   rw [decide_eq_true rfl]
   refine iteT ⟨_, rfl, _, rfl, hsc, ?_⟩
   rw [decide_eq_true rfl]
   exact q _ s1
  ·have hlen : xs.length = ys.length := Paired.length hP
   -- both of one kind
   refine ⟨_, rfl, by show 2 ≤ sizeLine; decide, fun t ht => ?_⟩
   have s1 := same_upd (o := .tup [.ty "list", .ty "tuple"]) ht
   have kinds : ∃ T, (T = "list" ∨ T = "tuple") ∧ (∀ H', Same H H' → TyOf K H' (.ref p) (.type T) ∧ TyOf K H' (.ref qq) (.type T)) ∧ PySem.W.kitAny K (.type T) (["list", "tuple"].map Value.type) = some true ∧ PySem.W.kitOne K (.type T) (.type "list") = some (decide (T = "list")) := by
    rcases hpq with ⟨h1, h2⟩ | ⟨h1, h2⟩
    ·exact ⟨"list", .inl rfl, fun H' s => ⟨.lst (s _ _ h1), .lst (s _ _ h2)⟩, by kernel_rfl, by kernel_rfl⟩
    ·exact ⟨"tuple", .inr rfl, fun H' s => ⟨.tup (s _ _ h1), .tup (s _ _ h2)⟩, by kernel_rfl, by kernel_rfl⟩
   obtain ⟨TT, hTT, hk, k1, k2⟩ := kinds
   refine ⟨_, t, .type TT, true, ["list", "tuple"], rfl, upd_same, (hk _ s1).2, ⟨_, rfl⟩, k1, _, rfl, iteT ?_⟩
   refine ⟨_, rfl, by show 2 ≤ sizeLine; decide, fun t2 ht2 => ?_⟩
   have s2 := s1.trans (same_upd (o := .tup [.ty "list", .ty "tuple"]) ht2)
   refine ⟨_, t2, .type TT, true, ["list", "tuple"], rfl, upd_same, (hk _ s2).1, ⟨_, rfl⟩, k1, _, rfl, iteF ?_⟩
   refine ⟨_, rfl, _, "list", .type TT, _, rfl, (hk _ s2).1, k2, _, rfl, _, "list", .type TT, _, rfl, (hk _ s2).2, k2, rfl, _, rfl, iteNS rfl ?_⟩
   have sq : ∀ H', Same H H' → (SqL K H' p xs ∨ SqT K H' p xs) ∧ (SqL K H' qq ys ∨ SqT K H' qq ys) := fun H' s => by
    rcases hpq with ⟨h1, h2⟩ | ⟨h1, h2⟩
    ·exact ⟨.inl (SqL.of (s _ _ h1)), .inl (SqL.of (s _ _ h2))⟩
    ·exact ⟨.inr (SqT.of (s _ _ h1)), .inr (SqT.of (s _ _ h2))⟩
   refine ⟨_, rfl, p, xs, rfl, (sq _ s2).1, _, rfl, qq, ys, rfl, (sq _ s2).2, rfl, _, rfl, iteNS (by rw [hlen]) ?_⟩
   -- the loop, of lists or of tuples
   have loop : ∀ (kk : SeqK), (∀ H', Same H H' → kk.Sq K H' p xs ∧ kk.Sq K H' qq ys) → ∀ (l : Addr) (H2 : Hp), Same H H2 → H2 l = none → ∀ (Q' : L2.St → Hp → Prop), (∀ σ H', Same H2 H' → H' l = some (.lst (xs.map fun _ => V.bl true)) → Q' σ H') →
     tForJ (Itz (fun H xs => kk.Sq K H p xs) fun H ys => kk.Sq K H qq ys) (gTup K 2 (gCons (gName 0) (gCons (gName 1) gNil))) (tBodyC tAll (tEmit l (tCall spR [] E0 (tCons (tVar 0) (tCons (tVar 1) tNil))))) (eC Q') [none, none] (upd H2 l (.lst [])) := by
    intro kk hkk l H2 sH hl Q' hQ'
    refine for_zip (xs := xs) (ys := ys) hlen (fun i σ H' => σ.length = 2 ∧ Same H2 H' ∧ H' l = some (.lst ((xs.take i).map fun _ => V.bl true))) ⟨rfl, same_upd hl, by rw [upd_same]; rfl⟩ (fun i σ H' h => hkk H' (sH.trans h.2.1)) ?_ ?_
    ·rintro i x y p3 σ H' hx hy ⟨hσ, hs, hl'⟩ hp3
     match σ, hσ with
     | [x0, x1], _ =>
     have s3 := same_upd (o := .tup [x, y]) hp3
     refine ⟨p3, _, rfl, SqT.of upd_same, rfl, _, _, rfl, _, _, rfl, rfl, ?_⟩
     refine body_all ?_
     refine ⟨_, rfl, _, rfl, ?_⟩
     refine hR x y _ _ _ (hSR _ _ ((sH.trans hs).trans s3) x y (pairedGet hP hx hy)) fun H4 s4 => ?_
     refine ⟨_, s4 _ _ (s3 _ _ hl'), small1000 (by rw [List.length_map, List.length_take]; omega), rfl, fun b' u e' => ?_, ?_⟩
     ·rw [upd_ne (ne_of_none e' hl)]; exact s4 _ _ (s3 _ _ (hs _ _ e'))
     ·rw [upd_same, List.take_succ, hx, List.map_append]; rfl
    ·rintro σ H' ⟨_, hs, hl'⟩
     rw [List.take_of_length_le (Nat.le_refl _)] at hl'
     exact hQ' σ H' hs hl'
   have fin : ∀ (l : Addr) (H2 : Hp), Same H H2 → ∀ (σ : L2.St) (H' : Hp), Same H2 H' → H' l = some (.lst (xs.map fun _ => V.bl true)) → ∃ (p : Addr) (bs : List Bool), [V.ref l] = [.ref p] ∧ SqL K H' p (bs.map V.bl) ∧ Q (.bl (bs.all id)) H' := fun l H2 sH σ H' hs hl' => by
    refine ⟨l, xs.map fun _ => true, rfl, SqL.of (by rw [hl', List.map_map]; rfl), ?_⟩
    have : (xs.map fun _ => true).all id = true := by simp
    rw [this]
    exact q H' (sH.trans hs)
   rcases hpq with ⟨h1, h2⟩ | ⟨h1, h2⟩
   ·refine .inl ⟨_, rfl, _, rfl, p, qq, xs, ys, rfl, SqL.of (s2 _ _ h1), SqL.of (s2 _ _ h2), fun Z l hl => ?_⟩
    exact loop kL (fun H' s => ⟨SqL.of (s _ _ h1), SqL.of (s _ _ h2)⟩) l _ s2 hl _ fun σ H' hs hl' => fin l _ s2 σ H' hs hl'
   ·refine .inr ⟨_, rfl, _, rfl, p, qq, xs, ys, rfl, SqT.of (s2 _ _ h1), SqT.of (s2 _ _ h2), fun Z l hl => ?_⟩
    exact loop kT (fun H' s => ⟨SqT.of (s _ _ h1), SqT.of (s _ _ h2)⟩) l _ s2 hl _ fun σ H' hs hl' => fin l _ s2 σ H' hs hl'
theorem ok_same {f : Addr} {fd : FuncData} (F : Fun K "_law_same" "_law_same" sSame f fd) (T : Txt mg) (mS : mg "_law_same" = some (.ref f)) (bS : L2.Binds K fd ["_law_thing", "_law_due"] []) : ∀ n : Nat, FnOk P w K mg base CX0 (n + 1) f fd ["_law_thing", "_law_due"] (spSame n)
 | 0 => (same_step (k := 0) F T mS bS FnOk.never (fun _ _ _ => False) (fun _ _ _ _ _ z => z) (fun _ _ _ _ _ z => z.elim)).imp fun vs H Q E h => by
  obtain ⟨a, b, e, h1, h2⟩ := h
  exact ⟨a, b, e, .inl h1, h2⟩
 | n + 1 => (same_step (k := n + 1) F T mS bS (ok_same F T mS bS n) (fun H a b => SameV H n a b) (fun H H' s a b z => SameV.same s z) (fun a b H Q E h q => ⟨a, b, rfl, h, q⟩)).imp fun vs H Q E h => by
  obtain ⟨a, b, e, h1, h2⟩ := h
  exact ⟨a, b, e, h1, h2⟩
end
theorem grid_same {H : Hp} {p1 p2 : Addr} {g : Gr} (h1 : GridAt H p1 g) (h2 : GridAt H p2 g) (hl : g.length ≤ 1000) (hr : ∀ xs ∈ g, xs.length ≤ 1000) : SameV H 2 (.ref p1) (.ref p2) := by
 obtain ⟨bs, ha, hG⟩ := h1
 obtain ⟨cs, hb, hK⟩ := h2
 have hbl : bs.length = g.length := Paired.length hG
 refine .inr ⟨p1, p2, _, _, rfl, rfl, .inr ⟨ha, hb⟩, by rw [List.length_map]; omega, ?_⟩
 clear ha hb hbl hl
 induction hG generalizing cs with
 | nil => cases hK; exact .nil
 | @cons b xs bs' g' r t ih =>
  cases hK with
  | @cons c _ cs' _ r' t' =>
   refine .cons (.inr ⟨b, c, _, _, rfl, rfl, .inr ⟨r, r'⟩, by rw [List.length_map]; exact hr xs List.mem_cons_self, ?_⟩) (ih (fun ys hy => hr ys (List.mem_cons_of_mem _ hy)) cs' t')
   clear r r' ih hr
   induction xs with
   | nil => exact .nil
   | cons x xs ihx => exact .cons (SameV.int 0 x) ihx
theorem clT_grid {H : Hp} {a : Addr} {cl : List C3} (h : ClT H a cl) (ok : ClOk cl) : GridAt H a (cl.map row) ∧ (cl.map row).length ≤ 12 ∧ ∀ ns ∈ cl.map row, ns.length ≤ 3 ∧ ∀ n ∈ ns, -2 ≤ n ∧ n ≤ 99 := by
 obtain ⟨bs, ha, hC⟩ := h
 refine ⟨⟨bs, ha, ?_⟩, by rw [List.length_map]; exact ok.l12, fun ns hn => ?_⟩
 ·have go : ∀ {bs : List Addr} {cl : List C3}, ClP H bs cl → RowsG H bs (cl.map row) := by
   intro bs cl hC
   induction hC with
   | nil => exact .nil
   | cons r _ ih => exact .cons r ih
  exact go hC
 ·obtain ⟨c, hc, rfl⟩ := List.mem_map.mp hn
  have := ok.num c hc
  refine ⟨Nat.le_refl 3, fun n hn => ?_⟩
  unfold row at hn
  simp only [List.mem_cons, List.not_mem_nil, or_false] at hn
  rcases hn with rfl | rfl | rfl <;> omega
end M54
namespace L2
open PySem PySem.Spec PyProof.Rows
section
variable {X : Cx}
theorem vbools_of : ∀ {bs : List Bool} {us : List Value}, Vals (bs.map V.bl) us → us = bs.map Value.bool
 | [], _, h => by cases h; rfl
 | b :: bs, _, h => by
  cases h with
  | cons a1 a2 => rw [show _ = Value.bool b from a1, vbools_of a2]; rfl
noncomputable def isT : Value → Bool | .bool b => b | _ => false
theorem eqT_at {pins : List (Addr × Obj)} {σ : St} {H : Hp} {s : Shared} (I : Inv X pins σ H s) (hu : X.A.units + 1 < cLine) (b : Bool) : SeqAt.EqAt X.A.in1 s (.bool b) (.bool true) b := by
 cases b with
 | true => exact SeqAt.EqAt.same _
 | false => exact SeqAt.EqAt.bool_bool false true
noncomputable def rCountT : V → List V → Hp → VK → Prop := fun x vs H Q => ∃ l bs, x = .ref l ∧ vs = [.bl true] ∧ H l = some (.lst ((bs : List Bool).map V.bl)) ∧ Q (.int (bs.countP id : Nat)) H
theorem mt_countT (hu : X.A.units + 1 < cLine) : MtM X "list.count" rCountT := by
 intro pins s σ H x vs v us Q I rx rv h
 obtain ⟨l, bs, rfl, rfl, hH, q⟩ := h
 cases rx
 obtain ⟨u, rfl, ru⟩ := rv.one
 obtain rfl : u = Value.bool true := ru
 obtain ⟨z, its, m, r, hl, e⟩ := I.lstM hH
 have hb := vbools_of r
 subst hb
 refine call_meets F.slot_list_count ⟨_, e, rfl⟩ F.entry_list_count (F.args_list_count_2 _ _) (SeqAt.list_countAt l (bs.map Value.bool).toArray m none #[] (.bool true) isT) ⟨e, fun w hw => ?_, ?_⟩
 ·have hw' : w ∈ bs.map Value.bool := by simpa using hw
  obtain ⟨b, _, rfl⟩ := List.mem_map.mp hw'
  exact eqT_at I hu b
 ·refine ⟨.int (bs.countP id : Nat), H, I.tok _, ⟨s.toks, ?_⟩, q⟩
  have : (bs.map Value.bool).countP isT = bs.countP id := by rw [List.countP_map]; rfl
  show Value.int (((bs.map Value.bool).countP isT : Nat) : Int) _ = _
  rw [this]
noncomputable def rIndexT : V → List V → Hp → VK → Prop := fun x vs H Q => ∃ l bs j, x = .ref l ∧ vs = [.bl true] ∧ H l = some (.lst ((bs : List Bool).map V.bl)) ∧ bs[j]? = some true ∧ (∀ i, i < j → bs[i]? = some false) ∧ j < 1000 ∧ Q (.int (j : Nat)) H
theorem mt_indexT (hu : X.A.units + 1 < cLine) : MtM X "list.index" rIndexT := by
 intro pins s σ H x vs v us Q I rx rv h
 obtain ⟨l, bs, j, rfl, rfl, hH, hj, hno, hz, q⟩ := h
 cases rx
 obtain ⟨u, rfl, ru⟩ := rv.one
 obtain rfl : u = Value.bool true := ru
 obtain ⟨z, its, m, r, hl, e⟩ := I.lstM hH
 have hb := vbools_of r
 subst hb
 have jl : j < bs.length := (List.getElem?_eq_some_iff.mp hj).1
 refine call_meets F.slot_list_index ⟨_, e, rfl⟩ F.entry_list_index (F.args_list_index_2 _ _) (SeqAt.list_indexAt l (bs.map Value.bool).toArray m none #[] (.bool true) isT j (by simpa using jl) (by omega) ?_ fun i hi hij => ?_) ⟨e, fun w hw => ?_, ?_⟩
 ·have := (List.getElem?_eq_some_iff.mp hj).2
  simp [isT, this]
 ·have hb : i < bs.length := by simpa using hi
  have := (List.getElem?_eq_some_iff.mp (hno i hij)).2
  simp [isT, this]
 ·have hw' : w ∈ bs.map Value.bool := by simpa using hw
  obtain ⟨b, _, rfl⟩ := List.mem_map.mp hw'
  exact eqT_at I hu b
 ·exact ⟨.int (j : Nat), H, I.tok _, ⟨_, rfl⟩, q⟩
end
end L2
namespace L2
open PySem PySem.Spec PyProof.Rows PySem.W
noncomputable def cxLam (P : Program) (w : World) (K : PySem.W.Frag) (mg : Str → Option Value) (base : Heap) (N : List Str) (qual : Str) (scope : Scope) (f : Addr) (cd : Value) (cl : List (Str × Addr)) (A : Around) (outer : List Env) (s : Shared) (H : Hp) (E : XK) : Cx where
 prog := P
 w := w
 K := K
 mg := mg
 base := base
 A := A.deeper (envX qual scope s.heap.objs.size f cd cl)
 N := N
 s₀ := s
 H₀ := H
 env := envX qual scope s.heap.objs.size f cd cl
 outer := outer
 stack := envX qual scope s.heap.objs.size f cd cl :: outer
 ex := []
 calm := true
 fn := fun _ => false
 pn := []
 xe := fun e s' => wpAny (model P w) (A.deeper (envX qual scope s.heap.objs.size f cd cl)) (leaving (envX qual scope s.heap.objs.size f cd cl) e) (fun _ s'' => CX1 P w outer H s E e s'') (fun e' s'' => CX1 P w outer H s E e' s'') s'
structure LamAt (h : Heap) (H : Hp) (f : Addr) (qual : Str) (params : Arguments) (body : Expr) (scope : Scope) (cl : List (Str × Addr)) (pm ctv : Value) (c' : Addr) : Prop where
 fn : h.get? f = some (kla_obj "<lambda>" qual params body scope cl pm c' ctv)
 code : h.CodeRec (.ref c') qual
 cells : ∀ x c, cl.lookup x = some c → (∃ v, h.IsCell c v) ∧ H c = none
section
variable {P : Program} {w : World} {K : PySem.W.Frag} {mg : Str → Option Value} {base : Heap} {N : List Str} {qual : Str} {scope : Scope} {f c' : Addr} {cl : List (Str × Addr)} {A : Around} {outer : List Env} {s : Shared} {H : Hp} {E : XK} {Q : VK} {params : Arguments} {body : Expr} {pm ctv : Value}
theorem passL {cd : Value} : Passes (CX1 P w) (cxLam P w K mg base N qual scope f cd cl A outer s H E) E := by
 intro pins σ H1 s1 e s2 I h
 obtain ⟨a, cls, H', rfl, F, q⟩ := h
 exact pass_out (X := cxLam P w K mg base N qual scope f cd cl A outer s H E) I rfl rfl rfl F fun h' F' => ⟨a, cls, H', rfl, F', q⟩
theorem lam_run {k : Nat} {σ : St} (hr : Room (k + 1) A) (e0 : Env0 P w K mg base A outer s H) (L : LamAt s.heap H f qual params body scope cl pm ctv c')
  (hbind : bindArgs (kla_fn "<lambda>" qual params body scope cl pm (.ref c') ctv) ⟨[], []⟩ = pure []) (hco : scope.isCoroutine = false) (hgen : scope.isGenerator = false) (hk : scope.kind = .function) (hcell : ∀ x ∈ scope.names, x.2 ≠ .cell)
  (hhas : ∀ x, scope.names.lookup x = some .free → ∃ c, cl.lookup x = some c) (hinj : ∀ x y c, cl.lookup x = some c → cl.lookup y = some c → x = y)
  (hσ : ∀ (i : Nat) (x : Str) (v : V), N[i]? = some x → σ[i]? = some (some v) → ∃ c u, scope.names.lookup x = some .free ∧ cl.lookup x = some c ∧ s.heap.IsCell c (some u) ∧ RelV v u) (hlen : σ.length = N.length)
  (hbody : ∃ t, PE (cxLam P w K mg base N qual scope f (.ref c') cl A outer s H E) body t ∧ t σ H Q) :
  codeAny (model P w) A (.call (.ref f) ⟨[], []⟩) (CR (CX1 P w) outer P w H s Q E) s := by
 have lim : s.heap.NoLimit := e0.mod.nolimit.keeps fun b o e => (e0.bs b o e).1
 obtain ⟨t, ht, hq⟩ := hbody
 refine kla_callFunE hr.depth L.fn rfl hco hgen rfl L.code ?_
 rw [hbind]
 refine wpAny_pure (wpAny_newFunctionEnv hcell (by intro y hy; simp at hy) (fun h₁ hns hsb => ⟨lim.fresh _ hsb, ?_⟩) hk)
 show codeAny _ _ (.expr body (envX qual scope s.heap.objs.size f (.ref c') cl)) _ _
 have keep : ∀ b o, s.heap.get? b = some o → h₁.get? b = some o := fun b o e => hsb.extBut b o (Nat.ne_of_lt (Heap.lt_size e)) (Heap.get?_push_of_some _ e)
 have noA : ∀ b : Addr, b ∉ (cxLam P w K mg base N qual scope f (.ref c') cl A outer s H E).ex := fun b z => absurd (show b ∈ ([] : List Addr) from z) (by simp)
 have I : Inv (cxLam P w K mg base N qual scope f (.ref c') cl A outer s H E) [] σ H { s with heap := h₁, toks := s.toks + ([] : List (Str × Value)).length } := by
  refine ⟨⟨e0.mod, hk, rfl, rfl, Nat.le_refl _, fun x y c h1 h2 => hinj x y c h1 h2, fun x hx => ?_, fun x c z => (Bool.false_ne_true z).elim, fun _ => hr.hd, Around.frames_deeper e0.frames, .inr ⟨rfl, rfl⟩, fun b z => absurd z (noA b), e0.bs, e0.bsz, fun b _ _ => noA b, fun b z => absurd z (noA b), e0.funs, e0.frf⟩,
   rfl, e0.bare, Un.kept keep, ⟨_, hns, fun i x v h1 h2 h3 => ?_⟩, fun x c e => ?_, e0.hok.fresh (Nat.le_refl _), fun x c e => (L.cells x c e).2, fun p hp => absurd (show p ∈ ([] : List (Addr × Obj)) from hp) (by simp), e0.hok.kept keep, hlen⟩
  ·have hx : scope.names.lookup x = some .cell ∨ scope.names.lookup x = some .free := hx
   rcases hx with hx | hx
   ·exact absurd rfl (hcell _ (PySem.mem_of_lookup hx))
   ·exact hhas x hx
  ·obtain ⟨c, u, e1, e2, ⟨o, ho, hd⟩, r⟩ := hσ i x v h1 h2
   exact ⟨u, r, .inr ⟨.inr e1, c, e2, o, keep _ _ ho, hd⟩⟩
  ·obtain ⟨⟨v, o, ho, hd⟩, _⟩ := L.cells x c e
   exact ⟨v, o, keep _ _ ho, hd⟩
 refine kla_codeExpr (wpAny_mono (ht [] _ σ H Q I hq) (fun u s' hs => ?_) fun e s' hs => hs)
 obtain ⟨v, H', J, rv, q⟩ := hs
 exact ⟨v, H', J.os, J.bare, J.base, J.hok, rv, q⟩
end
end L2
namespace L2
open PySem PySem.Spec PyProof.Rows PySem.W
structure FnOkS (P : Program) (w : World) (K : PySem.W.Frag) (mg : Str → Option Value) (base : Heap) (k : Nat) (f : Addr) (fd : FuncData) (ps : List Str) (sp : List Env → List V → Hp → Heap → VK → Prop) : Prop where
 len : ∀ o vs H h Q, sp o vs H h Q → vs.length = ps.length
 run : ∀ (A : Around) (outer : List Env) (s : Shared) (H : Hp) (args : Args) (us : List Value) (vs : List V) (Q : VK) (E : XK), Room k A → Env0 P w K mg base A outer s H → BindsTo s fd args (ps.zip us) → Vals vs us → sp outer vs H s.heap Q →
  codeAny (model P w) A (.call (.ref f) args) (CR CX0 outer P w H s Q E) s
section
variable {P : Program} {w : World} {K : PySem.W.Frag} {mg : Str → Option Value} {base : Heap}
theorem Fun.okTryS {x qual : Str} {st : Stmt} {f : Addr} {fd : FuncData} {N ps : List Str} {k : Nat} {sp : List Env → List V → Hp → Heap → VK → Prop} {body : List Stmt} {y n : Str} {i : Nat} {Cy : Addr} {b₀ : Stmt} {suite : List Stmt} {np hp pos : Pos} (F : Fun K x qual st f fd) (S : FnScope N ps (defScope st)) (len : ∀ o vs H h Q, sp o vs H h Q → vs.length = ps.length)
  (hst : defBody st = [.Try body [.ExceptHandler (some (.Name y np)) (some n) (b₀ :: suite) hp] [] [] pos]) (hy : (defScope st).names.lookup y = some .globalImplicit) (hm : mg y = some (.ref Cy)) (hi : N[i]? = some n) (hn : (defScope st).names.lookup n = some .local) (hdb : (y == ("__debug__" : Str)) = false)
  (hbody : ∀ (cdv : Value) (A : Around) (outer : List Env) (s : Shared) (H : Hp) (vs : List V) (Q : VK) (E : XK), Room k (A.deeper (envOfC qual (defScope st) s.heap.objs.size f cdv)) → sp outer vs H s.heap Q →
   ∃ (EX : XK) (t : TS) (tS : Addr → Obj → TS), PSs ((cxOf CX0 P w K mg base N qual (defScope st) f cdv A outer s H E).nox.wish (Lands (cxOf CX0 P w K mg base N qual (defScope st) f cdv A outer s H E).nox EX)) body t ∧
    (∀ e oe, PSs ((cxOf CX0 P w K mg base N qual (defScope st) f cdv A outer s H E).nox.within e oe) (b₀ :: suite) (tS e oe)) ∧ t { nx := fun _ H' => Q .non H', rt := Q } (start N vs) H ∧
    (∀ cls H', EX cls none H' → PySem.W.exmOne K cls (.ref Cy) = some true) ∧ ∀ e oe cls H', oe.cls = cls → EX cls none H' → tS e oe { nx := fun _ _ => False, rt := Q } ((List.replicate N.length none).set i (some (.ref e))) H') : FnOkS P w K mg base (k + 1) f fd ps sp := by
 refine ⟨len, fun A outer s H args us vs Q E hr e0 hb r hsp => ?_⟩
 have key : FnOk P w K mg base CX0 (k + 1) f fd ps (fun vs' H' Q' _ => vs' = vs ∧ False) := ⟨fun _ _ _ _ h => h.2.elim, fun _ _ _ _ _ _ _ _ _ _ _ _ _ h => h.2.elim⟩
 obtain ⟨oc, od, kV, doc, pm, an, cdv, ct, osl, rfl, lk, hcd⟩ := F.ex
 obtain ⟨EX, t, tS, h1, h2, h3, h4, h5⟩ := hbody cdv A outer s H vs Q E (hr.deeper _) hsp
 have key : ∀ (s1 : Shared), Inv (cxOf CX0 P w K mg base N qual (defScope st) f cdv A outer s H E).nox [] (start N vs) H s1 →
   wpAny (model P w) (A.deeper (envOfC qual (defScope st) s.heap.objs.size f cdv)) (execs (defBody st) (envOfC qual (defScope st) s.heap.objs.size f cdv)) (SP (cxOf CX0 P w K mg base N qual (defScope st) f cdv A outer s H E).nox [] { nx := fun _ H' => Q .non H', rt := Q }) (fun _ _ => False) s1 := fun s1 I => by
  rw [hst]
  refine wpAny_execs_cons (thn (Q := SP (cxOf CX0 P w K mg base N qual (defScope st) f cdv A outer s H E).nox [] { nx := fun _ H' => Q .non H', rt := Q }) (wpAny_Try_except (wpAny_mono (h1 [] s1 (start N vs) H { nx := fun _ H' => Q .non H', rt := Q } (I.wish _) h3) (fun fl s2 q2 => ?_) fun v s2 q2 => ?_)) fun fl s2 q2 => ?_)
  ·have q3 := SP.unwish q2
   cases fl with
   | next => exact wpAny_execs_nil q3
   | ret u => exact q3
   | brk => exact q3
   | cont => exact q3
  ·exact catch_as (X := (cxOf CX0 P w K mg base N qual (defScope st) f cdv A outer s H E).nox) (R := Q) rfl rfl rfl rfl hy hm S.nd hi hn h4 h2 h5 hdb rfl q2
  ·cases fl with
   | next => exact wpAny_execs_nil q2
   | ret u => exact q2
   | brk => exact q2
   | cont => exact q2
 have hl := len _ _ _ _ _ hsp
 have KX : K.In s.heap := e0.mod.kin.keeps fun b o e => (e0.bs b o e).1
 have lim : s.heap.NoLimit := e0.mod.nolimit.keeps fun b o e => (e0.bs b o e).1
 have hkind : ∀ z ∈ ps.zip us, (defScope st).names.lookup z.1 = some .local ∨ ((defScope st).names.lookup z.1 = some .cell ∧ ((cellsFrom (s.heap.objs.size + 1) (defScope st).names []).lookup z.1).isSome = true) := fun ⟨n, v⟩ hy => by
  rcases S.par n (List.of_mem_zip hy).1 with q | q
  ·exact .inl q
  ·exact .inr ⟨q, PySem.W.cellsFrom_some _ _ _ (.inl q)⟩
 refine codeAny_call_function hr.depth (KX _ _ lk) rfl S.co S.gen rfl (PySem.W.codeRec_of KX hcd) (hb _ _ _ _ ?_)
 refine wpAny_newFunctionEnv_cells S.kind hkind fun env he s1 x => ?_
 subst he
 refine ⟨lim.keeps x.toInCall.keep, codeAny_func ?_⟩
 have I : Inv (cxOf CX0 P w K mg base N qual (defScope st) f cdv A outer s H E) [] (start N vs) H s1 := inv_start S hr.hd e0 hl r x
 refine wpAny_mono (key s1 (I.wish _)) (fun fl s' hs => ?_) fun e s' hs => hs.elim
 have fin : ∀ {σ' : St} {H' : Hp} {v : V} {u : Value}, Inv (cxOf CX0 P w K mg base N qual (defScope st) f cdv A outer s H E).nox [] σ' H' s' → RelV v u → Q v H' → CE outer P w H s Q u s' :=
  fun {σ' H' v u} J rv q => ⟨v, H', J.os, J.bare, J.base, J.hok, rv, q⟩
 cases fl with
 | ret u =>
  obtain ⟨v, σ', H', J, rv, q⟩ := hs
  exact fin J rv q
 | next =>
  obtain ⟨σ', H', J, q⟩ := hs
  exact fin (v := V.non) (u := Value.none) J rfl q
 | brk =>
  obtain ⟨_, _, _, q⟩ := hs
  exact False.elim q
 | cont =>
  obtain ⟨_, _, _, q⟩ := hs
  exact False.elim q
end
theorem pe_callL {X : Cx} {CX : CXT} {E : XK} {i : Nat} {x : Str} {p pos : Pos} (hN : X.N[i]? = some x) (hv : Vis X.env.scope x) (hp : Passes CX X E) (hd : (x == ("__debug__" : Str)) = false := by decide) (hcd : (x == ("__classdict__" : Str)) = false := by decide) :
  PE X (.Call (.Name x p) [] [] pos) (fun σ H Q => ∃ f, σ[i]? = some (some (.ref f)) ∧ ∀ (pins : List (Addr × Obj)) (s : Shared), Inv X pins σ H s → FnAt f s.heap ∧ codeAny (model X.prog X.w) X.A (.call (.ref f) ⟨[], []⟩) (CR CX X.stack X.prog X.w H s Q E) s) := by
 intro pins s σ H Q I h
 obtain ⟨f, e, h⟩ := h
 refine wpAny_Call_Name_kw (thn (pe_var (pos := p) hN hv hd hcd pins s σ H (fun v H' => v = .ref f ∧ H' = H) I ⟨.ref f, e, rfl, rfl⟩) fun u s1 ⟨v, H1, I1, r, ev, eH⟩ => ?_)
 subst ev eH
 cases (show u = Value.ref f from r)
 obtain ⟨hF, hc⟩ := h pins s1 I1
 refine callWith_F0 hF (wpAny_call (codeAny_mono hc fun r s' hq => ?_))
 cases r with
 | error e => exact hp pins σ _ s1 e s' I1 hq
 | ok fl =>
  cases fl with
  | ret u => exact I1.after hq
  | next => exact False.elim hq
  | brk => exact False.elim hq
  | cont => exact False.elim hq
end L2
namespace L2
open PySem PySem.Spec PyProof.Rows PySem.W
noncomputable def cdO (c' : Addr) (qual : Str) : HO := .ext fun h => ∃ o vs t, h.get? c' = some o ∧ o.data = .fields vs ∧ vs[1]? = some (.str qual t)
structure TabI (H : Hp) (P : Addr) (ps : Array Value) (qual : Str) (poss : List Pos) : Prop where
 at' : H P = some (.tbl ps)
 tr : TriplesOk ps.toList
 cd : ∀ pos ∈ poss, codeAmong pos ps.toList = none ∨ ∃ c', codeAmong pos ps.toList = some (.ref c') ∧ H c' = some (cdO c' qual)
noncomputable def Grow (P : Addr) (H H1 : Hp) : Prop := ∀ b u, b ≠ P → H b = some u → H1 b = some u
noncomputable def BMain (mg : Str → Option Value) (h : Heap) : Prop := ∃ bm ob, mg "__builtins__" = some (.ref bm) ∧ bm ≠ builtinsNs ∧ h.get? bm = some ob ∧ ob.cls = .type "module" ∧ ob.dict = some builtinsNs ∧ ob.data = .plain
theorem among_snoc {pos pos' : Pos} {c : Value} {t1 t2 : Tok} : ∀ {l : List Value}, TriplesOk l → codeAmong pos (l ++ [.int pos'.line t1, .int pos'.col t2, c]) = match codeAmong pos l with | some d => some d | none => if (((pos'.line : Int) == (pos.line : Int) && (pos'.col : Int) == (pos.col : Int)) : Bool) = true then some c else none
 | [], _ => rfl
 | .int a ta :: .int b tb :: d :: r, h => by
  have ih := among_snoc (pos := pos) (pos' := pos') (c := c) (t1 := t1) (t2 := t2) (l := r) h
  show (if (a == (pos.line : Int) && b == (pos.col : Int)) = true then some d else codeAmong pos (r ++ [.int pos'.line t1, .int pos'.col t2, c])) = match (if (a == (pos.line : Int) && b == (pos.col : Int)) = true then some d else codeAmong pos r) with | some d => some d | none => _
  by_cases hh : (a == (pos.line : Int) && b == (pos.col : Int)) = true
  ·rw [if_pos hh, if_pos hh]
  ·rw [if_neg hh, if_neg hh]; exact ih
theorem triples_snoc {l : List Value} {a b : Int} {t1 t2 : Tok} {c : Value} : TriplesOk l → TriplesOk (l ++ [.int a t1, .int b t2, c]) := by
 intro h
 match l, h with
 | [], _ => trivial
 | .int _ _ :: .int _ _ :: d :: r, h => exact triples_snoc (l := r) h
section
variable {X : Cx} {pins : List (Addr × Obj)} {σ : St} {H : Hp} {s : Shared} {P c : Addr} {ps : Array Value} {qual : Str} {poss : List Pos} {params : Arguments} {body : Expr} {scope : Scope} {pos : Pos} {Q : Value → Shared → Prop}
noncomputable def LamRuns (X : Cx) (qual : Str) (params : Arguments) (body : Expr) (scope : Scope) (y : Str) (f : Addr) (H1 : Hp) (h : Heap) (v : V) : Prop :=
 FnAt f h ∧ H1 f = none ∧ f ∉ frs X.stack ∧ ∃ c' cl, ∀ (A : Around) (outer : List Env) (s' : Shared) (Q : VK) (E : XK) (kk : Nat), Room (kk + 1) A → Env0 X.prog X.w X.K X.mg X.base A outer s' H1 →
  (∀ b o, h.get? b = some o → H1 b = none → b ∉ frs X.stack → s'.heap.get? b = some o) → (∃ t, PE (cxLam X.prog X.w X.K X.mg X.base [y] qual scope f (.ref c') cl A outer s' H1 E) body t ∧ t [some v] H1 Q) →
  codeAny (model X.prog X.w) A (.call (.ref f) ⟨[], []⟩) (CR (CX1 X.prog X.w) outer X.prog X.w H1 s' Q E) s'
theorem lam_make {i : Nat} {y : Str} {v : V} (I : Inv X pins σ H s) (hs : X.stack = X.env :: X.outer) (hf : X.env.frame = some X.env.locals) (hfn : X.fn = fun _ => true) (hcode : X.env.code = .ref c) (C : CodeHd X.base c P) (bm : BMain X.mg X.base) (T : TabI H P ps qual poss) (hpos : pos ∈ poss) (hap : ∀ q ∈ poss, q ≠ pos → ((((pos.line : Nat) : Int) == ((q.line : Nat) : Int) && ((pos.col : Nat) : Int) == ((q.col : Nat) : Int)) : Bool) = false) (hq : X.env.qual ++ "<lambda>" = qual)
  (hdef : defaultsOf params X.env = ([], [])) (hbind : ∀ cl pm c' ctv, bindArgs (kla_fn "<lambda>" qual params body scope cl pm (.ref c') ctv) ⟨[], []⟩ = pure []) (hco : scope.isCoroutine = false) (hgen : scope.isGenerator = false) (hk : scope.kind = .function) (hcell : ∀ x ∈ scope.names, x.2 ≠ .cell)
  (hfree : ∀ x ∈ scope.names, x.2 = .free → x.1 = y) (hy : scope.names.lookup y = some .free) (hyX : X.env.scope.names.lookup y = some .cell) (hN : X.N[i]? = some y) (hv : σ[i]? = some (some v))
  (k : ∀ f ps' H1 s1, Inv X pins σ H1 s1 → Grow P H H1 → TabI H1 P ps' qual poss → LamRuns X qual params body scope y f H1 s1.heap v → Q (.ref f) s1) : wpAny (model X.prog X.w) X.A (eval (.Lambda params body scope pos) X.env) Q X.xe s := by
 obtain ⟨cl, hclos, hc1, hc2⟩ := clos_ok (env := X.env) (scope := scope) fun x hx hf => by
  rw [hfree x hx hf]
  exact I.ok.has y (.inl hyX)
 have hP : s.heap.get? P = some (tabObj ps) := I.hok P _ T.at'
 have hg : s.heap.Ns mainGlobals X.mg := I.mod.glob.keeps I.bk
 have CS : CodeHd s.heap c P := C.keeps I.bk
 obtain ⟨b, ob, b1, b2, b3, b4, b5, b6⟩ := bm
 have hgP : mainGlobals ≠ P := fun z => by
  obtain ⟨o, es, ep, e, hd, _⟩ := hg
  rw [z, hP] at e; cases e; cases hd
 have hbP : b ≠ P := fun z => by
  have := I.bk _ _ b3
  rw [z, hP] at this; cases this; cases b4
 have hbG : b ≠ mainGlobals := fun z => by
  obtain ⟨o, es, ep, e, hd, _⟩ := hg
  have := I.bk _ _ b3
  rw [z, e] at this; cases this; rw [hd] at b6; cases b6
 have hb : s.heap.BuiltinsAt X.mg P := ⟨b, ob, b1, b2, hbG, hbP, I.bk _ _ b3, b4, b5, b6⟩
 -- the value that the name holds
 obtain ⟨m, hm, hl⟩ := I.loc
 obtain ⟨u, ru, lk⟩ := hl i y v hN hv (.inr (.inl hyX))
 obtain ⟨cc, hcc, hcellv⟩ : ∃ cc, X.env.cells.lookup y = some cc ∧ s.heap.IsCell cc (some u) := by
  rcases lk with ⟨z, _⟩ | ⟨_, cc, e1, e2⟩
  ·have z' : X.env.scope.names.lookup y = some .local := z
   rw [hyX] at z'; cases z'
  ·exact ⟨cc, e1, e2⟩
 have hclY : cl.lookup y = some cc := by
  obtain ⟨d, hd⟩ := hc2 y (PySem.mem_of_lookup hy)
  have := hc1 y d hd
  rw [hcc] at this; rw [hd, this]
 have cabove : ∀ x d, X.env.cells.lookup x = some d → d ∉ frs X.stack := fun x d e hb => by
  rcases List.mem_cons.mp (I.stkSub d hb) with z | z
  ·exact I.cne x d e z
  ·have := I.ok.cab x d (by rw [hfn]) e
   obtain ⟨_, o, ho, _⟩ := I.ok.funs.mem z
   exact absurd (Nat.lt_of_lt_of_le (Heap.lt_size ho) this) (Nat.lt_irrefl _)
 have fresh : ∀ d, s.heap.objs.size ≤ d → d ∉ frs X.stack := fun d hd hb => by
  obtain ⟨_, o, ho, _⟩ := I.stack.mem hb
  exact absurd (Nat.lt_of_lt_of_le (Heap.lt_size ho) hd) (Nat.lt_irrefl _)
 -- what is made runs
 have runs : ∀ (f c' : Addr) (ctv : Value) (H1 : Hp) (h1 : Heap), h1.get? f = some (kla_obj "<lambda>" qual params body scope cl ((X.mg "__name__").getD .none) c' ctv) → H1 f = none → s.heap.objs.size ≤ f → H1 c' = some (cdO c' qual) → (∀ x d, X.env.cells.lookup x = some d → (∃ w', h1.IsCell d w') ∧ H1 d = none) → h1.IsCell cc (some u) → LamRuns X qual params body scope y f H1 h1 v := by
  intro f c' ctv H1 h1 e1 e2 e3 e4 e5 e6
  refine ⟨⟨_, _, _, _, e1⟩, e2, fresh f e3, c', cl, fun A outer s' Q' E kk hr e0 kept hbody => ?_⟩
  have hcd : s'.heap.CodeRec (.ref c') qual := by
   obtain ⟨⟨o, vs, t, x1, x2, x3⟩, _⟩ := e0.hok c' _ e4
   exact ⟨c', o, vs, t, rfl, x1, x2, x3⟩
  have kc : ∀ {d : Addr} {w' : Option Value}, H1 d = none → d ∉ frs X.stack → h1.IsCell d w' → s'.heap.IsCell d w' := fun h1' h2' ⟨o, ho, hd⟩ => ⟨o, kept _ _ ho h1' h2', hd⟩
  refine lam_run hr e0 ⟨kept _ _ e1 e2 (fresh f e3), hcd, fun x d e => ?_⟩ (hbind _ _ _ _) hco hgen hk hcell (fun x hx => hc2 x (PySem.mem_of_lookup hx)) (fun x y' d z1 z2 => I.ok.inj x y' d (hc1 x d z1) (hc1 y' d z2)) (fun j x w' h1' h2' => ?_) rfl hbody
  ·obtain ⟨⟨w', x1⟩, x2⟩ := e5 x d (hc1 x d e)
   exact ⟨⟨w', kc x2 (cabove x d (hc1 x d e)) x1⟩, x2⟩
  ·have hj : j = 0 := by
    have := (List.getElem?_eq_some_iff.mp h1').1
    simpa using this
   subst hj
   cases h1'
   cases h2'
   exact ⟨cc, u, hy, hclY, kc (e5 y cc hcc).2 (cabove y cc hcc) e6, ru⟩
 refine kla_eval hdef ?_
 rw [hq]
 rcases T.cd pos hpos with hnf | ⟨c', hhit, hc'⟩
 ·refine kla_makeFunction (mg := X.mg) hclos I.ok.glob hg hcode CS hP T.tr hnf hgP hb fun c' ctv h' tk hx hge hlt hrec htb => ?_
  have hsz : s.heap.objs.size ≤ h'.objs.size := Nat.le_of_lt (Nat.lt_of_le_of_lt hge hlt)
  have hPlt : P < s.heap.objs.size := Heap.lt_size hP
  have hcP : c' ≠ P := fun z => by rw [z] at hge; exact absurd (Nat.lt_of_lt_of_le hPlt hge) (Nat.lt_irrefl _)
  have keep : ∀ b o, b ≠ P → s.heap.get? b = some o → (h'.push (kla_obj "<lambda>" qual params body scope cl ((X.mg "__name__").getD .none) c' ctv)).get? b = some o := fun b o hb e => Heap.get?_push_of_some _ (hx b o hb e)
  have nP : ∀ b, H b = none → b ≠ P := fun b n z => by rw [z, T.at'] at n; cases n
  have hcn : H c' = none := I.hok.fresh hge
  have hfn' : H h'.objs.size = none := I.hok.fresh hsz
  generalize hnew : ps ++ #[rawInt pos.line, rawInt pos.col, .ref c'] = ps' at htb
  generalize hH1 : upd (upd H P (.tbl ps')) c' (cdO c' qual) = H1
  have g1 : Grow P H H1 := fun b w' hb e => by
   rw [← hH1, upd_ne (ne_of_none e hcn), upd_ne hb]; exact e
  have gP : H1 P = some (.tbl ps') := by rw [← hH1, upd_ne hcP.symm, upd_same]
  have gc : H1 c' = some (cdO c' qual) := by rw [← hH1, upd_same]
  have gn : ∀ b, H b = none → b ≠ c' → H1 b = none := fun b n hb => by rw [← hH1, upd_ne hb, upd_ne (nP b n)]; exact n
  have gof : ∀ b w', H1 b = some w' → b ≠ P → b ≠ c' → H b = some w' := fun b w' e h1 h2 => by rw [← hH1, upd_ne h2, upd_ne h1] at e; exact e
  obtain ⟨c2, oc, vs, tt, e2, hoc, hdc, hvc⟩ := hrec
  cases e2
  have hokF : HOk X.prog X.w H1 (h'.push (kla_obj "<lambda>" qual params body scope cl ((X.mg "__name__").getD .none) c' ctv)) := fun b w' e => by
   by_cases hbP' : b = P
   ·rw [hbP', gP] at e; cases e
    rw [hbP']
    show (h'.push _).get? P = some _
    exact Heap.get?_push_of_some _ htb
   ·by_cases hbc : b = c'
    ·rw [hbc, gc] at e; cases e
     rw [hbc]
     refine ⟨⟨oc, vs, tt, Heap.get?_push_of_some _ hoc, hdc, hvc⟩, ⟨oc, Heap.get?_push_of_some _ hoc⟩, fun h1 h2 ⟨o, vs', t', x1, x2, x3⟩ kk => ⟨o, vs', t', kk o x1, x2, x3⟩⟩
    ·have e' := gof b w' e hbP' hbc
     refine (I.hok b w' e').stay (fun d w'' hd q => keep d w'' (fun z => ?_) q) (fun d q => ?_) fun d xs q => ?_
     ·rcases hd with z' | z'
      ·exact hbP' (z'.symm.trans z)
      ·rw [z, T.at'] at z'; cases z'
     ·refine g1 d _ (fun z => ?_) q
      rw [z, T.at'] at q; cases q
     ·refine g1 d _ (fun z => ?_) q
      rw [z, T.at'] at q; cases q
  have I1 : Inv X pins σ H1 { s with heap := h'.push (kla_obj "<lambda>" qual params body scope cl ((X.mg "__name__").getD .none) c' ctv), toks := tk } := by
   refine I.un (t' := tk) ⟨fun b o q n _ _ => keep b o (nP b n) q, fun b o q n _ _ => ⟨o.slots, keep b o (nP b n) q⟩, fun b o q n _ => gn b n (fun z => ?_), fun b o q _ => ?_, fun b xs q => g1 b _ (fun z => ?_) q, fun b o w' q => g1 b _ (fun z => ?_) q, fun b qs q => ?_⟩ hokF
   ·have := Heap.lt_size q
    rw [z] at this; exact absurd (Nat.lt_of_lt_of_le this hge) (Nat.lt_irrefl _)
   ·by_cases hbP' : b = P
    ·exact ⟨_, by rw [hbP']; exact Heap.get?_push_of_some _ htb⟩
    ·exact ⟨o, keep b o hbP' q⟩
   ·rw [z, T.at'] at q; cases q
   ·rw [z, T.at'] at q; cases q
   ·by_cases hbP' : b = P
    ·rw [hbP', T.at'] at q; cases q
     exact ⟨#[rawInt pos.line, rawInt pos.col, .ref c'], by rw [hbP', gP, hnew]⟩
    ·exact ⟨#[], by rw [g1 b _ hbP' q]; simp⟩
  refine k _ ps' H1 _ I1 g1 ⟨gP, ?_, fun q hq' => ?_⟩ (runs _ c' ctv H1 _ (Heap.get?_push_size _ rfl) (gn _ hfn' (Nat.ne_of_gt hlt)) hsz gc (fun x d e => ?_) ?_)
  ·rw [← hnew, Array.toList_append]
   exact triples_snoc T.tr
  ·rw [← hnew, Array.toList_append]
   have eqA : codeAmong q (ps.toList ++ #[rawInt pos.line, rawInt pos.col, Value.ref c'].toList) = _ := among_snoc (pos := q) (pos' := pos) (c := .ref c') T.tr
   rw [eqA]
   by_cases hqp : q = pos
   ·subst hqp
    rw [hnf]
    refine .inr ⟨c', ?_, gc⟩
    dsimp only
    rw [if_pos (by simp)]
   ·rcases T.cd q hq' with z | ⟨d, z1, z2⟩
    ·rw [z]
     refine .inl ?_
     dsimp only
     rw [if_neg (by rw [hap q hq' hqp]; decide)]
    ·rw [z1]
     refine .inr ⟨d, rfl, g1 d _ (fun z => ?_) z2⟩
     rw [z, T.at'] at z2; cases z2
  ·obtain ⟨w', o, ho, hd⟩ := I.cell x d e
   have hdn := I.freeC x d e
   refine ⟨⟨w', o, keep d o (nP d hdn) ho, hd⟩, gn d hdn fun z => ?_⟩
   have := Heap.lt_size ho
   rw [z] at this; exact absurd (Nat.lt_of_lt_of_le this hge) (Nat.lt_irrefl _)
  ·obtain ⟨o, ho, hd⟩ := hcellv
   exact ⟨o, keep cc o (nP cc (I.freeC y cc hcc)) ho, hd⟩
 ·refine kla_makeFunctionHit (mg := X.mg) hclos I.ok.glob hg hcode CS hP T.tr hhit hb fun ctv h' tk hkp hsz => ?_
  have hfn' : H h'.objs.size = none := I.hok.fresh hsz
  have I1 : Inv X pins σ H { s with heap := h'.push { cls := .type "function", data := .func (kla_fn "<lambda>" qual params body scope cl ((X.mg "__name__").getD .none) (.ref c') ctv) }, toks := tk } := I.kept (t' := tk) fun b o e => Heap.get?_push_of_some _ (hkp b o e)
  refine k _ ps H _ I1 (fun b w' _ e => e) T (runs _ c' ctv H _ (Heap.get?_push_size _ rfl) hfn' hsz hc' (fun x d e => ?_) ?_)
  ·obtain ⟨w', o, ho, hd⟩ := I.cell x d e
   exact ⟨⟨w', o, Heap.get?_push_of_some _ (hkp _ _ ho), hd⟩, I.freeC x d e⟩
  ·obtain ⟨o, ho, hd⟩ := hcellv
   exact ⟨o, Heap.get?_push_of_some _ (hkp _ _ ho), hd⟩
end
end L2
namespace L2
open PySem PySem.Spec PyProof.Rows PySem.W
structure LamT (X : Cx) (c P : Addr) (qual : Str) (poss : List Pos) (params : Arguments) (body : Expr) (scope : Scope) (pos : Pos) (y : Str) (i : Nat) : Prop where
 hs : X.stack = X.env :: X.outer
 hf : X.env.frame = some X.env.locals
 hfn : X.fn = fun _ => true
 hcode : X.env.code = .ref c
 C : CodeHd X.base c P
 bm : BMain X.mg X.base
 hpos : pos ∈ poss
 hap : ∀ q ∈ poss, q ≠ pos → ((((pos.line : Nat) : Int) == ((q.line : Nat) : Int) && ((pos.col : Nat) : Int) == ((q.col : Nat) : Int)) : Bool) = false
 hq : X.env.qual ++ "<lambda>" = qual
 hdef : defaultsOf params X.env = ([], [])
 hbind : ∀ cl pm c' ctv, bindArgs (kla_fn "<lambda>" qual params body scope cl pm (.ref c') ctv) ⟨[], []⟩ = pure []
 hco : scope.isCoroutine = false
 hgen : scope.isGenerator = false
 hk : scope.kind = .function
 hcell : ∀ x ∈ scope.names, x.2 ≠ .cell
 hfree : ∀ x ∈ scope.names, x.2 = .free → x.1 = y
 hy : scope.names.lookup y = some .free
 hyX : X.env.scope.names.lookup y = some .cell
 hN : X.N[i]? = some y
section
variable {X : Cx} {g P c : Addr} {gd : FuncData} {k i : Nat} {pn x y : Str} {sp : List Env → List V → Hp → Heap → VK → Prop} {qual : Str} {poss : List Pos} {params : Arguments} {body : Expr} {scope : Scope} {pos p cpos : Pos}
theorem pe_tell (F : FnOkS X.prog X.w X.K X.mg X.base k g gd [pn] sp) (hr : Room k X.A) (hg : Gl X x) (hm : X.mg x = some (.ref g)) (hkp : keepIn X.K (.ref g) = true) (hb : Binds X.K gd [pn] []) (L : LamT X c P qual poss params body scope pos y i) (hdb : (x == ("__debug__" : Str)) = false := by decide)
  (he : starEach [.Lambda params body scope pos] X.env = [(false, eval (.Lambda params body scope pos) X.env)] := by rfl) :
  PE X (.Call (.Name x p) [.Lambda params body scope pos] [] cpos) (fun σ H Q => ∃ ps v, TabI H P ps qual poss ∧ σ[i]? = some (some v) ∧ ∀ f ps' H1 h, Grow P H H1 → TabI H1 P ps' qual poss → LamRuns X qual params body scope y f H1 h v → sp X.stack [.ref f] H1 h Q) := by
 intro pins s σ H Q I h
 obtain ⟨ps, v, T, hv, h⟩ := h
 refine wpAny_Call_Name_kw (ld_glob I hg hm ?_ hdb)
 refine PySem.W.callWith_K (h₀ := X.base) I.ok.mod.kin hkp ?_ (by rw [he]; rfl) rfl
 rw [he]
 show wpAny _ _ (spliced ((false, eval (.Lambda params body scope pos) X.env) :: backTo cpos (starEach [] X.env))) _ _ s
 refine Calls.spliced_cons (lam_make I L.hs L.hf L.hfn L.hcode L.C L.bm T L.hpos L.hap L.hq L.hdef L.hbind L.hco L.hgen L.hk L.hcell L.hfree L.hy L.hyX L.hN hv fun f ps' H1 s1 I1 g1 T1 R => ?_)
 refine Calls.spliced_nil ⟨I1.kIn, ?_⟩
 have q := h f ps' H1 s1.heap g1 T1 R
 refine wpAny_call (codeAny_mono (F.run X.A X.stack s1 H1 ⟨[.ref f], []⟩ [.ref f] [.ref f] Q E0 hr I1.env0 (by have := hb s1 [.ref f] I1.kIn rfl; exact this) (.cons rfl .nil) q) fun r s' hq => ?_)
 cases r with
 | error e => exact False.elim hq
 | ok fl =>
  cases fl with
  | ret u => exact I1.after hq
  | next => exact False.elim hq
  | brk => exact False.elim hq
  | cont => exact False.elim hq
end
end L2
namespace L2
open PySem PySem.Spec PyProof.Rows PySem.W
theorem law_callT {P : Program} {w : World} {K : PySem.W.Frag} {mg mb : Str → Option Value} {k : Nat} {fa a c T : Addr} {fd : FuncData} {x : Str} {sp : Sp} {s₁ : Shared} {vs : List Value} {ns : List Int}
  (KX : K.In s₁.heap) (hns : s₁.heap.Ns mainGlobals mg) (hb : s₁.heap.Ns builtinsNs mb) (hbb : ∀ x : Str, x ≠ "__name__" → mb x = bootBuiltins x) (hlim : s₁.heap.NoLimit) (hg : s₁.gens = #[])
  (ha : s₁.heap.get? a = some { cls := .type "list", data := .seq vs.toArray }) (hi : IntsAre vs ns) (hl : ns.length ≤ sizeLine) (hr : Room k callerA) (hT : s₁.heap.get? T = some (tabObj #[])) (hKT : K.lookup T = none) (hC : CodeHd s₁.heap c T) (hBM : BMain mg s₁.heap)
  (F : ∀ base : Heap, K.In base → base.Ns mainGlobals mg → CodeHd base c T → BMain mg base → FnOk P w K mg base CX0 k fa fd [x] sp) (hbind : ∀ (s : Shared) (u : Value), BindsTo s fd ⟨[u], []⟩ [(x, u)])
  (hsp : ∀ H : Hp, H T = some (.tbl #[]) → SqL K H a (ns.map V.int) → sp [.ref a] H (fun v _ => v = .bl true) fun _ _ _ => False) :
  codeAny (model P w) callerA (.call (.ref fa) ⟨[.ref a], []⟩) (fun r s' => r = .ok (.ret (.bool true)) ∧ OldK s₁.heap s'.heap ∧ s'.os = s₁.os ∧ AllBare s'.gens) s₁ := by
 have rv := vals_ints hi
 have lenV := hi.length
 have hTa : T ≠ a := fun z => by rw [z, ha] at hT; cases hT
 have core : ∀ H : Hp, H T = some (.tbl #[]) → (∀ b, b ≠ T → H b = none ∨ ∃ o xs, H b = some (.frz o (.lst xs))) → SqL K H a (ns.map V.int) → HOk P w H s₁.heap → (∀ b, H b ≠ none → b = a ∨ b = T) → (H a ≠ none → K.lookup a = none) →
   codeAny (model P w) callerA (.call (.ref fa) ⟨[.ref a], []⟩) (fun r s' => r = .ok (.ret (.bool true)) ∧ OldK s₁.heap s'.heap ∧ s'.os = s₁.os ∧ AllBare s'.gens) s₁ := by
  intro H hHT hO hS hok hA hK
  have base_of : ∀ {b : Addr} {o : Obj}, s₁.heap.get? b = some o → H b = none → (hidT s₁.heap H).get? b = some o := fun e n => hidT_get e n
  have noH : ∀ {b : Addr} {o : Obj}, s₁.heap.get? b = some o → o.cls ≠ .type "list" → o.cls ≠ .none → H b = none := fun {b o} e d1 d2 => by
   cases q : H b with
   | none => rfl
   | some u =>
    rcases hA b (by rw [q]; simp) with e' | e'
    ·rw [e', ha] at e; cases e; exact absurd rfl d1
    ·rw [e', hT] at e; cases e; exact absurd rfl d2
  have noA : ∀ {b : Addr} {o : Obj} {es : Array DictEntry} {ep : Nat}, s₁.heap.get? b = some o → o.data = .dict es ep → H b = none := fun {b o es ep} e d => by
   cases q : H b with
   | none => rfl
   | some u =>
    rcases hA b (by rw [q]; simp) with e' | e'
    ·rw [e', ha] at e; cases e; cases d
    ·rw [e', hT] at e; cases e; cases d
  have nsK : ∀ {b : Addr} {m : Str → Option Value}, s₁.heap.Ns b m → (hidT s₁.heap H).Ns b m := fun {b m} ⟨o, es, ep, e, d, r⟩ => ⟨o, es, ep, base_of e (noA e d), d, r⟩
  have hKb : K.In (hidT s₁.heap H) := fun b o e => base_of (KX b o e) (by
   cases q : H b with
   | none => rfl
   | some u =>
    rcases hA b (by rw [q]; simp) with e' | e'
    ·subst e'
     rw [hK (by rw [q]; simp)] at e; cases e
    ·rw [e', hKT] at e; cases e)
  have hM : Mod K mg (hidT s₁.heap H) := ⟨hKb, nsK hns, ⟨mb, nsK hb, hbb⟩, let ⟨mc, h1, h2⟩ := hlim; ⟨mc, nsK h1, h2⟩⟩
  have e0 : Env0 P w K mg (hidT s₁.heap H) callerA [] s₁ H := ⟨rfl, hM, fun b o e => of_hidT e, Nat.le_of_eq (hidT_size _ _), trivial, fun b hb => absurd (show b ∈ ([] : List Addr) from hb) (by simp), hok, .of_eq hg⟩
  have hCb : CodeHd (hidT s₁.heap H) c T := by
   obtain ⟨o, vs', file, tf, flags, tg, inF, text, tt, e1, e2, r⟩ := id hC
   exact ⟨o, vs', file, tf, flags, tg, inF, text, tt, base_of e1 (noH e1 (by rw [e2]; decide) (by rw [e2]; decide)), e2, r⟩
  have hBb : BMain mg (hidT s₁.heap H) := by
   obtain ⟨bm, ob, b1, b2, b3, b4, r⟩ := id hBM
   exact ⟨bm, ob, b1, b2, base_of b3 (noH b3 (by rw [b4]; decide) (by rw [b4]; decide)), b4, r⟩
  refine codeAny_mono ((F _ hKb (nsK hns) hCb hBb).run callerA [] s₁ H ⟨[.ref a], []⟩ [.ref a] [.ref a] _ _ hr e0 (hbind s₁ (.ref a)) (.cons rfl .nil) (hsp H hHT hS)) fun r s' h => ?_
  cases r with
  | error e => exact False.elim h
  | ok fl =>
   cases fl with
   | next => exact False.elim h
   | brk => exact False.elim h
   | cont => exact False.elim h
   | ret u =>
    obtain ⟨v, H', os, bare, un, hok', r', q⟩ := h
    have q' : v = .bl true := q
    subst q'
    obtain rfl : u = Value.bool true := r'
    have keep : ∀ b o, b ≠ T → s₁.heap.get? b = some o → s'.heap.get? b = some o := fun b o hbT e => by
     cases q : H b with
     | none => exact un.keep b o e q (by intro z; exact absurd (show b ∈ ([] : List Addr) from z) (by simp)) (by simp)
     | some u =>
      rcases hO b hbT with z | ⟨ob, xs, z⟩
      ·rw [q] at z; cases z
      ·have z2 := un.frzs b ob _ z
       obtain ⟨e1, _⟩ := hok b _ z
       obtain ⟨e2, _⟩ := hok' b _ z2
       rw [e] at e1; cases e1
       exact e2
    obtain ⟨more, hmore⟩ := un.tbls T _ hHT
    have hT' : s'.heap.get? T = some { cls := .none, data := .fields (#[] ++ more) } := hok' T _ hmore
    refine ⟨rfl, ⟨fun b o e => ?_, fun b o e => ?_⟩, os, bare⟩
    ·by_cases hbT : b = T
     ·subst hbT
      rw [hT] at e; cases e
      exact .inr (.inl ⟨(hC.tab hT).isCodeTable, rfl, #[], more, rfl, hT'⟩)
     ·exact .inl (keep b o hbT e)
    ·by_cases hbT : b = T
     ·exact ⟨_, by rw [hbT]; exact hT'⟩
     ·exact ⟨o, keep b o hbT e⟩
 have okT : ∀ H : Hp, H T = some (.tbl #[]) → (∀ b, b ≠ T → ∀ u, H b = some u → ObjOk P w H s₁.heap b u) → HOk P w H s₁.heap := fun H h1 h2 b u e => by
  by_cases hbT : b = T
  ·rw [hbT, h1] at e; cases e
   rw [hbT]; exact hT
  ·exact h2 b hbT u e
 cases hk : K.lookup a with
 | some o =>
  have e := KX a o hk
  rw [ha] at e
  cases e
  refine core (fun b => if b = T then some (.tbl #[]) else none) (if_pos rfl) (fun b hb => .inl (if_neg hb)) (.inr ⟨_, vs.toArray, _, hk, rfl, rfl, rfl, by rw [List.size_toArray, lenV]; exact hl, by simpa using rv⟩) (okT _ (if_pos rfl) fun b hb u z => by have z' := (if_neg hb).symm.trans z; cases z') (fun b z => ?_) fun z => absurd (if_neg hTa.symm) z
  by_cases hb : b = T
  ·exact .inr hb
  ·exact absurd (if_neg hb) z
 | none =>
  refine core (fun b => if b = T then some (.tbl #[]) else if b = a then some (.frz { cls := .type "list", data := .seq vs.toArray } (.lst (ns.map V.int))) else none) (if_pos rfl) (fun b hbT => ?_) (.inl (.inr ⟨{ cls := .type "list", data := .seq vs.toArray }, (if_neg hTa.symm).trans (if_pos rfl)⟩)) (okT _ (if_pos rfl) fun b hbT u z => ?_) (fun b z => ?_) fun _ => hk
  ·by_cases hb : b = a
   ·exact .inr ⟨_, _, (if_neg hbT).trans (if_pos hb)⟩
   ·exact .inl ((if_neg hbT).trans (if_neg hb))
  ·have z1 := (if_neg hbT).symm.trans z
   by_cases hb : b = a
   ·have z' := (if_pos hb).symm.trans z1
    cases z'
    subst hb
    exact ⟨ha, by rw [List.length_map]; exact hl, vs, _, rv, ha⟩
   ·have z' := (if_neg hb).symm.trans z1
    cases z'
  ·by_cases hbT : b = T
   ·exact .inr hbT
   ·by_cases hb : b = a
    ·exact .inl hb
    ·exact absurd ((if_neg hbT).trans (if_neg hb)) z
theorem walk_ofT {l : PySem.W.OpenLaw} {n k : Nat} {q : Program} {loose : List Str} {XP : (Str → Option Value) → Heap → Prop} {YP : World → Heap → Prop} {d : DefRec} {K : Params → PySem.W.Frag} {sp : World → Sp} {x : Str} {c T : Addr}
  (hn : l.most = some n) (hn2 : n ≤ sizeLine) (hdf : d.params.defaults = []) (hr : Room k callerA)
  (hY : ∀ (w : World) (h : Heap), YP w h → (K w.params).In h ∧ h.get? T = some (tabObj #[])) (hKT : ∀ w : World, (K w.params).lookup T = none) (hKC : ∀ w : World, codeHdIn (K w.params) c T = true)
  (F : ∀ (w : World) (mg : Str → Option Value) (fa : Addr) (h : Heap), (K w.params).In h → h.Ns mainGlobals mg → mg d.name = some (.ref fa) →
   ∃ fd : FuncData, (∀ (s : Shared) (u : Value), BindsTo s fd ⟨[u], []⟩ [(x, u)]) ∧
    ∀ base : Heap, (K w.params).In base → base.Ns mainGlobals mg → CodeHd base c T → BMain mg base → FnOk l.prog w (K w.params) mg base CX0 k fa fd [x] (sp w))
  (hsp : ∀ (w : World) (H : Hp) (a : Addr) (ns : List Int), ns.length ≤ n → H T = some (.tbl #[]) → SqL (K w.params) H a (ns.map V.int) → sp w [.ref a] H (fun v _ => v = .bl true) fun _ _ _ => False) :
  PySem.W.WalkO q loose XP YP l.row.toRowW d [] (fun f vs => PySem.call f vs) := by
 refine Att.attach_call hn hdf fun w s₀ s₁ mg mb fa o pm cd doc a vs ns G Y ho hd hcd hmg hobj hints hlen hg => ?_
 obtain ⟨KX, hT⟩ := hY w _ Y
 obtain ⟨fd, hb, hF⟩ := F w mg fa _ KX G.T.g hmg
 exact law_callT KX G.T.g G.T.b G.T.builtins G.T.nolimit hg hobj hints (Nat.le_trans hlen hn2) hr hT (hKT w) (codeHd_of_K KX (hKC w)) G.T.bmain hF hb (fun H hO hS => hsp w H a ns hlen hO hS)
end L2
namespace M54
open PySem L2 PyProof.Rows
structure ClsD (K : PySem.W.Frag) (cE cM cC cN cT D : Addr) (b : Bool) : Prop where
 d : ExcD K D
 x : PySem.W.exmOne K (.ref D) (.ref cE) = some true
 k1 : PySem.W.kitOne K (.ref D) (.ref cM) = some b
 k2 : PySem.W.kitOne K (.ref D) (.ref cC) = some (!b)
 k3 : PySem.W.kitOne K (.ref D) (.ref cN) = some false
 k4 : PySem.W.kitOne K (.ref D) (.ref cT) = some false
 k5 : PySem.W.kitOne K (.ref D) (.type "ValueError") = some true
structure Cls (K : PySem.W.Frag) (mg : Str → Option Value) (cE cM cC cN cT : Addr) : Prop where
 mE : mg "MeadError" = some (.ref cE)
 mM : mg "NoMead" = some (.ref cM)
 mC : mg "NoClaims" = some (.ref cC)
 mN : mg "NoClaim" = some (.ref cN)
 mT : mg "NoText" = some (.ref cT)
 mV : mg "ValueError" = none
 eT : ExcC K cT
 dM : ClsD K cE cM cC cN cT cM true
 dC : ClsD K cE cM cC cN cT cC false
noncomputable def tellT (b : Bool) : Str := if b = true then "no mead" else "no claims"
noncomputable def Refuses (P : Program) (w : World) (K : PySem.W.Frag) (mg : Str → Option Value) (base : Heap) (o : List Env) (f D : Addr) (H : Hp) (h : Heap) : Prop :=
 ∀ (A : Around) (outer : List Env) (s' : Shared) (Q : VK) (E : XK), Room 7 A → Env0 P w K mg base A outer s' H → (∀ b o', h.get? b = some o' → H b = none → b ∉ frs o → s'.heap.get? b = some o') → (∀ H', Same H H' → E (.ref D) none H') →
  codeAny (model P w) A (.call (.ref f) ⟨[], []⟩) (CR (CX1 P w) outer P w H s' Q E) s'
noncomputable def spTold (P : Program) (w : World) (K : PySem.W.Frag) (mg : Str → Option Value) (base : Heap) (cE cM cC cN cT : Addr) : List Env → List V → Hp → Heap → VK → Prop := fun o vs H h Q => ∃ f D b, vs = [.ref f] ∧ ClsD K cE cM cC cN cT D b ∧ PySem.W.FnAt f h ∧ H f = none ∧ f ∉ frs o ∧ Refuses P w K mg base o f D H h ∧ ∀ H', Same H H' → Q (.str (tellT b)) H'
section
variable {P : Program} {w : World} {K : PySem.W.Frag} {mg : Str → Option Value} {base : Heap}
noncomputable abbrev nTold : List Str := ["_law_call", "e", "_law_marks"]
theorem scTold : FnScope nTold ["_law_call"] (defScope sTold) := ⟨rfl, rfl, rfl, by decide +kernel, rfl, by decide +kernel, by decide +kernel⟩
theorem boot_ve : bootBuiltins "ValueError" = some (.type "ValueError") := by decide +kernel
noncomputable def hSuite (s : Stmt) : List Stmt := match defBody s with | [.Try _ [.ExceptHandler _ _ b _] _ _ _] => b | _ => []
theorem ok_told {f cE cM cC cN cT : Addr} {fd : FuncData} (F : Fun K "_law_told" "_law_told" sTold f fd) (T : Txt mg) (C : Cls K mg cE cM cC cN cT) : FnOkS P w K mg base 8 f fd ["_law_call"] (spTold P w K mg base cE cM cC cN cT) := by
 have nd := scTold.nd
 refine F.okTryS (i := 1) (Cy := cE) scTold (fun o vs H h Q z => ?_) rfl rfl C.mE rfl rfl (by decide) (fun cdv A outer s H vs Q E hr h => ?_)
 ·obtain ⟨g, D, b, rfl, _⟩ := z; rfl
 ·obtain ⟨g, D, b, rfl, cD, hF, hH, hfr, hR, q⟩ := h
  have hu : (A.deeper (envOfC "_law_told" (defScope sTold) s.heap.objs.size f cdv)).units + 1 < cLine := hu_of hr
  have hS : ∀ (e : Addr) (oe : Obj), ∃ tt, PSs ((cxOf CX0 P w K mg base nTold "_law_told" (defScope sTold) f cdv A outer s H E).nox.within e oe) (hSuite sTold) tt ∧
    ∀ H', oe.cls = .ref D → (∀ H2, Same H' H2 → Q (.str (tellT b)) H2) → tt { nx := fun _ _ => False, rt := Q } [none, some (.ref e), none] H' := fun e oe => by
   refine ⟨_, pss_cons (ps_set (i := 2) nd rfl (Or.inl rfl) (pe_lst (pa_k (pe_callB (call_isinstX cD.d) rfl T.isinstance boot_isinstance (pa_v (pv 1) (pa_v (pe_glob (v := .ref cM) rfl C.mM rfl) pa_nil)))
     (pa_k (pe_callB (call_isinstX cD.d) rfl T.isinstance boot_isinstance (pa_v (pv 1) (pa_v (pe_glob (v := .ref cC) rfl C.mC rfl) pa_nil))) pa_nil)))) <|
    pss_cons (ps_set (i := 2) nd rfl (Or.inl rfl) (pe_op op_cat (pv 2) (pe_lst (pa_k (pe_callB (call_isinstX cD.d) rfl T.isinstance boot_isinstance (pa_v (pv 1) (pa_v (pe_glob (v := .ref cN) rfl C.mN rfl) pa_nil)))
     (pa_k (pe_callB (call_isinstX cD.d) rfl T.isinstance boot_isinstance (pa_v (pv 1) (pa_v (pe_glob (v := .ref cT) rfl C.mT rfl) pa_nil))) pa_nil))))) <|
    pss_cons (ps_if (PW.pt (pw_or (pt_cmpR op_ne (pe_bm PySem.F.plainAttrs_list PySem.F.slot_list_count PySem.F.type_list_count (mt_countT hu) (pv 2) (pa_c pe_bl pa_nil)) pe_int (nomark _))
     (pw_or1 (pt_not (pt_val (pe_callB (call_isinstX cD.d) rfl T.isinstance boot_isinstance (pa_v (pv 1) (pa_v (pe_bltn (v := .ty "ValueError") rfl C.mV boot_ve rfl) pa_nil)))))))) (pss_one (ps_ret pe_str)) pss_nil) <|
    pss_one (ps_ret (pe_ix ix_list (pe_lst (pa_c pe_str (pa_c pe_str (pa_c pe_str (pa_c pe_str pa_nil))))) (pe_bm PySem.F.plainAttrs_list PySem.F.slot_list_index PySem.F.type_list_index (mt_indexT hu) (pv 2) (pa_c pe_bl pa_nil)) (fun _ _ => rfl))), fun H' hc qq => ?_⟩
   refine ⟨_, rfl, hc, .inl ⟨cM, b, rfl, cD.k1, ?_⟩⟩
   refine ⟨_, rfl, hc, .inl ⟨cC, !b, rfl, cD.k2, ?_⟩⟩
   refine ⟨by show 2 ≤ sizeLine; decide, fun l hl => ?_⟩
   have s1 := same_upd (o := .lst [.bl b, .bl !b]) hl
   refine ⟨_, rfl, _, rfl, hc, .inl ⟨cN, false, rfl, cD.k3, ?_⟩⟩
   refine ⟨_, rfl, hc, .inl ⟨cT, false, rfl, cD.k4, ?_⟩⟩
   refine ⟨by show 2 ≤ sizeLine; decide, fun l2 hl2 => ?_⟩
   have s2 := same_upd (o := .lst [.bl false, .bl false]) hl2
   refine ⟨l, l2, _, _, rfl, rfl, s2 _ _ upd_same, upd_same, by show 2 + 2 ≤ sizeLine; decide, fun l3 hl3 => ?_⟩
   have s3 := same_upd (o := .lst ([.bl b, .bl !b] ++ [.bl false, .bl false])) hl3
   refine ⟨_, rfl, .inl ⟨rfl, _, SqL.of upd_same⟩, l3, [b, !b, false, false], rfl, rfl, upd_same, rfl, _, rfl, ?_⟩
   have e1 : ([b, !b, false, false].countP id) = 1 := by cases b <;> rfl
   rw [e1]
   refine iteF ?_
   refine ⟨_, rfl, hc, .inr ⟨"ValueError", true, rfl, cD.k5, _, rfl, iteF ?_⟩⟩
   refine ⟨by show 4 ≤ sizeLine; decide, fun l4 hl4 => ?_⟩
   have s4 := same_upd (o := .lst [.str "no mead", .str "no claims", .str "claim", .str "text"]) hl4
   refine ⟨_, rfl, .inl ⟨rfl, _, SqL.of (s4 _ _ upd_same)⟩, l3, [b, !b, false, false], (if b = true then 0 else 1), rfl, rfl, s4 _ _ upd_same, by cases b <;> rfl, (fun i hi => ?_), by cases b <;> decide, ?_⟩
   ·cases b with
    | true => exact absurd hi (Nat.not_lt_zero _)
    | false =>
     have : i = 0 := by have : i < 1 := hi; omega
     subst this; rfl
   ·refine ⟨l4, _, _, .str (tellT b), rfl, rfl, SqL.of upd_same, ?_, qq _ (((s1.trans s2).trans s3).trans s4)⟩
    cases b with
    | true => exact atI_nat (j := 0) rfl
    | false => exact atI_nat (j := 1) rfl
  refine ⟨fun cls _ H' => cls = .ref D ∧ ∀ H2, Same H' H2 → Q (.str (tellT b)) H2, _, fun e oe => (hS e oe).choose, pss_one (ps_ret (pe_callL (i := 0) rfl (Or.inl rfl) pass_lands)), fun e oe => (hS e oe).choose_spec.1, ?_, ?_, ?_⟩
  ·refine ⟨g, rfl, fun pins s' I => ?_⟩
   have keep : ∀ b o', s.heap.get? b = some o' → H b = none → b ∉ frs outer → s'.heap.get? b = some o' := fun b o' e1 e2 e3 => I.base.keep b o' e1 e2 e3 (fun z => by cases z)
   refine ⟨?_, hR _ _ s' _ _ hr I.env0 keep fun H' s2 => ⟨rfl, fun H2 s3 => q H2 (s2.trans s3)⟩⟩
   obtain ⟨oc, od, fd', sl, e1⟩ := hF
   exact ⟨oc, od, fd', sl, keep _ _ e1 hH hfr⟩
  ·rintro cls H' ⟨rfl, _⟩
   exact cD.x
  ·rintro e oe cls H' hc ⟨rfl, hq⟩
   exact (hS e oe).choose_spec.2 H' hc hq
end
end M54
namespace M54
open PySem L2 PyProof.Rows
noncomputable def Kept (p T : Addr) (H H2 : Hp) : Prop := ∀ b u, b ≠ p → b ≠ T → H b = some u → H2 b = some u
theorem Kept.trans {p T : Addr} {H H1 H2 : Hp} (a : Kept p T H H1) (b : Kept p T H1 H2) : Kept p T H H2 := fun x u h1 h2 h => b x u h1 h2 (a x u h1 h2 h)
theorem Kept.stp {p T : Addr} {H H1 : Hp} (a : Stp p H H1) : Kept p T H H1 := fun x u h1 _ h => a.keep x u h1 h
theorem Kept.same {p T : Addr} {H H1 : Hp} (a : Same H H1) : Kept p T H H1 := fun x u _ _ h => a x u h
theorem Kept.grow {p T : Addr} {H H1 : Hp} (a : Grow T H H1) : Kept p T H H1 := fun x u _ h2 h => a x u h2 h
noncomputable def BadV (p T : Addr) (good : Hp → V → Bool) (H : Hp) (v : V) : Prop := ∀ H2, Kept p T H H2 → Kn H2 3 v ∧ good H2 v = false
theorem BadV.kept {p T : Addr} {good : Hp → V → Bool} {H H1 : Hp} {v : V} (h : BadV p T good H v) (k : Kept p T H H1) : BadV p T good H1 v := fun H2 k2 => h H2 (k.trans k2)
theorem tup_ne {p T b : Addr} {H : Hp} {ps : Array Value} {xs : List V} (hp : PenAt H p) (hT : H T = some (.tbl ps)) (h : H b = some (.tup xs)) : b ≠ p ∧ b ≠ T :=
 ⟨fun z => (by obtain ⟨x, y, e⟩ := hp; rw [z, e] at h; cases h), fun z => (by rw [z, hT] at h; cases h)⟩
theorem new_ne {p T b : Addr} {H : Hp} {ps : Array Value} (hp : PenAt H p) (hT : H T = some (.tbl ps)) (h : H b = none) : b ≠ p ∧ b ≠ T :=
 ⟨fun z => (by obtain ⟨x, y, e⟩ := hp; rw [z, e] at h; cases h), fun z => (by rw [z, hT] at h; cases h)⟩
theorem PenAt.same' {p : Addr} {H H' : Hp} (hp : PenAt H p) (s : Same H H') : PenAt H' p := ((Stp.refl hp).same s).pen
noncomputable abbrev nLaw : List Str := ["_law_script", "_law_cell_here", "_law_pen_here", "_law_mead_here", "_law_claims_here", "_law_one", "_law_other", "_law_texts", "_law_bad", "_law_odd"]
noncomputable abbrev lawFor : List Stmt := forBody ((defBody sLaw).getD 0 (.Pass ⟨0, 0, 0, 0⟩))
theorem scLaw : FnScope nLaw ["_law_script"] (defScope sLaw) := ⟨rfl, rfl, rfl, by decide +kernel, rfl, by decide +kernel, by decide +kernel⟩
noncomputable abbrev XL (P : Program) (w : World) (K : PySem.W.Frag) (mg : Str → Option Value) (base : Heap) (f : Addr) (cdv : Value) (A : Around) (outer : List Env) (s : Shared) (H0 : Hp) (E : XK) : Cx := (cxOf CX0 P w K mg base nLaw "law" (defScope sLaw) f cdv A outer s H0 E).nox
noncomputable def ixList (s : Stmt) : List Expr := match s with | .Assign _ (.Subscript (.List es _) _ _) _ => es | _ => []
section
variable {P : Program} {w : World} {K : PySem.W.Frag} {mg : Str → Option Value} {base : Heap} {f : Addr} {cdv : Value} {A : Around} {outer : List Env} {s : Shared} {H0 : Hp} {E : XK}
theorem law_badL : ∃ tt, PAq (XL P w K mg base f cdv A outer s H0 E) (ixList (lawFor.getD 3 (.Pass ⟨0, 0, 0, 0⟩))) tt ∧
  ∀ (Q : List V → Hp → Prop) (p T : Addr) (ps : Array Value) (σ : L2.St) (H : Hp), PenAt H p → H T = some (.tbl ps) →
   (∀ (xs : List V) (H' : Hp), Same H H' → xs.length = 8 → (∀ v ∈ xs, BadV p T goodM H' v) → Q xs H') → tt σ H Q := by
 refine ⟨_, pq_n (pq_tq (tupq pq_nil) (pq_lq (lstq (pq_lq (lstq (pq_i pq_nil)) pq_nil)) (pq_tq (tupq (pq_tq (tupq (pq_u (pe_un un_neg pe_int) pq_nil)) pq_nil)) (pq_tq (tupq (pq_tq (tupq (pq_i (pq_tf pq_nil))) pq_nil)) (pq_s (pq_tq (tupq (pq_tq (tupq (pq_i (pq_i pq_nil))) (pq_tq (tupq (pq_i pq_nil)) pq_nil))) (pq_tq (tupq (pq_tq (tupq (pq_i pq_nil)) pq_nil)) pq_nil))))))), ?_⟩
 intro Q p T ps σ H hp hT k
 refine ⟨by show 0 ≤ sizeLine; decide, fun t1 h1 => ?_⟩
 have n1 := new_ne hp hT h1
 have s1 := same_upd (o := .tup []) h1
 have p1 := PenAt.same' hp s1
 have T1 := s1 _ _ hT
 refine ⟨by show 1 ≤ sizeLine; decide, fun t2 h2 => ?_⟩
 have n2 := new_ne p1 T1 h2
 have s2 := same_upd (o := .lst [.int 0]) h2
 have p2 := PenAt.same' p1 s2
 have T2 := s2 _ _ T1
 refine ⟨by show 1 ≤ sizeLine; decide, fun t3 h3 => ?_⟩
 have n3 := new_ne p2 T2 h3
 have s3 := same_upd (o := .lst [.ref t2]) h3
 have p3 := PenAt.same' p2 s3
 have T3 := s3 _ _ T2
 refine ⟨_, rfl, by show 1 ≤ sizeLine; decide, fun t4 h4 => ?_⟩
 have n4 := new_ne p3 T3 h4
 have s4 := same_upd (o := .tup [.int (-1)]) h4
 have p4 := PenAt.same' p3 s4
 have T4 := s4 _ _ T3
 refine ⟨by show 1 ≤ sizeLine; decide, fun t5 h5 => ?_⟩
 have n5 := new_ne p4 T4 h5
 have s5 := same_upd (o := .tup [.ref t4]) h5
 have p5 := PenAt.same' p4 s5
 have T5 := s5 _ _ T4
 refine ⟨by show 2 ≤ sizeLine; decide, fun t6 h6 => ?_⟩
 have n6 := new_ne p5 T5 h6
 have s6 := same_upd (o := .tup [.int 0, .bl true]) h6
 have p6 := PenAt.same' p5 s6
 have T6 := s6 _ _ T5
 refine ⟨by show 1 ≤ sizeLine; decide, fun t7 h7 => ?_⟩
 have n7 := new_ne p6 T6 h7
 have s7 := same_upd (o := .tup [.ref t6]) h7
 have p7 := PenAt.same' p6 s7
 have T7 := s7 _ _ T6
 refine ⟨by show 2 ≤ sizeLine; decide, fun t8 h8 => ?_⟩
 have n8 := new_ne p7 T7 h8
 have s8 := same_upd (o := .tup [.int 0, .int 1]) h8
 have p8 := PenAt.same' p7 s8
 have T8 := s8 _ _ T7
 refine ⟨by show 1 ≤ sizeLine; decide, fun t9 h9 => ?_⟩
 have n9 := new_ne p8 T8 h9
 have s9 := same_upd (o := .tup [.int 2]) h9
 have p9 := PenAt.same' p8 s9
 have T9 := s9 _ _ T8
 refine ⟨by show 2 ≤ sizeLine; decide, fun t10 h10 => ?_⟩
 have n10 := new_ne p9 T9 h10
 have s10 := same_upd (o := .tup [.ref t8, .ref t9]) h10
 have p10 := PenAt.same' p9 s10
 have T10 := s10 _ _ T9
 refine ⟨by show 1 ≤ sizeLine; decide, fun t11 h11 => ?_⟩
 have n11 := new_ne p10 T10 h11
 have s11 := same_upd (o := .tup [.int 100]) h11
 have p11 := PenAt.same' p10 s11
 have T11 := s11 _ _ T10
 refine ⟨by show 1 ≤ sizeLine; decide, fun t12 h12 => ?_⟩
 have n12 := new_ne p11 T11 h12
 have s12 := same_upd (o := .tup [.ref t11]) h12
 have p12 := PenAt.same' p11 s12
 have T12 := s12 _ _ T11
 refine k _ _ (((((((((((s1.trans s2).trans s3).trans s4).trans s5).trans s6).trans s7).trans s8).trans s9).trans s10).trans s11).trans s12) rfl fun v hv H2 kk => ?_
 have g1 : H2 t1 = some (.tup []) := kk _ _ n1.1 n1.2 (s12 _ _ (s11 _ _ (s10 _ _ (s9 _ _ (s8 _ _ (s7 _ _ (s6 _ _ (s5 _ _ (s4 _ _ (s3 _ _ (s2 _ _ upd_same)))))))))))
 have g2 : H2 t2 = some (.lst [.int 0]) := kk _ _ n2.1 n2.2 (s12 _ _ (s11 _ _ (s10 _ _ (s9 _ _ (s8 _ _ (s7 _ _ (s6 _ _ (s5 _ _ (s4 _ _ (s3 _ _ upd_same))))))))))
 have g3 : H2 t3 = some (.lst [.ref t2]) := kk _ _ n3.1 n3.2 (s12 _ _ (s11 _ _ (s10 _ _ (s9 _ _ (s8 _ _ (s7 _ _ (s6 _ _ (s5 _ _ (s4 _ _ upd_same)))))))))
 have g4 : H2 t4 = some (.tup [.int (-1)]) := kk _ _ n4.1 n4.2 (s12 _ _ (s11 _ _ (s10 _ _ (s9 _ _ (s8 _ _ (s7 _ _ (s6 _ _ (s5 _ _ upd_same))))))))
 have g5 : H2 t5 = some (.tup [.ref t4]) := kk _ _ n5.1 n5.2 (s12 _ _ (s11 _ _ (s10 _ _ (s9 _ _ (s8 _ _ (s7 _ _ (s6 _ _ upd_same)))))))
 have g6 : H2 t6 = some (.tup [.int 0, .bl true]) := kk _ _ n6.1 n6.2 (s12 _ _ (s11 _ _ (s10 _ _ (s9 _ _ (s8 _ _ (s7 _ _ upd_same))))))
 have g7 : H2 t7 = some (.tup [.ref t6]) := kk _ _ n7.1 n7.2 (s12 _ _ (s11 _ _ (s10 _ _ (s9 _ _ (s8 _ _ upd_same)))))
 have g8 : H2 t8 = some (.tup [.int 0, .int 1]) := kk _ _ n8.1 n8.2 (s12 _ _ (s11 _ _ (s10 _ _ (s9 _ _ upd_same))))
 have g9 : H2 t9 = some (.tup [.int 2]) := kk _ _ n9.1 n9.2 (s12 _ _ (s11 _ _ (s10 _ _ upd_same)))
 have g10 : H2 t10 = some (.tup [.ref t8, .ref t9]) := kk _ _ n10.1 n10.2 (s12 _ _ (s11 _ _ upd_same))
 have g11 : H2 t11 = some (.tup [.int 100]) := kk _ _ n11.1 n11.2 (s12 _ _ upd_same)
 have g12 : H2 t12 = some (.tup [.ref t11]) := kk _ _ n12.1 n12.2 upd_same
 simp only [List.mem_cons, List.not_mem_nil, or_false] at hv
 rcases hv with rfl | rfl | rfl | rfl | rfl | rfl | rfl | rfl
 ·exact ⟨KnA.non 3, rfl⟩
 ·exact ⟨(KnA.tup g1 (by simp) (fun x hx => by cases hx)) 3, by simp [goodM, tupOf, g1]⟩
 ·exact ⟨KnA.lst g3 3, by simp [goodM, tupOf, g3]⟩
 ·exact ⟨(KnA.tup g5 (by simp) (fun x hx => by rw [List.mem_singleton.mp hx]; exact (KnA.tup g4 (by simp) (fun x hx => by rw [List.mem_singleton.mp hx]; exact KnA.int _)))) 3, by simp [goodM, rowOk, cellsIn, lenOf, tupOf, g5, g4, numIn, nonneg]⟩
 ·exact ⟨(KnA.tup g7 (by simp) (fun x hx => by rw [List.mem_singleton.mp hx]; exact (KnA.tup g6 (by simp) (fun x hx => by rcases List.mem_cons.mp hx with rfl | hx; exact KnA.int _; rw [List.mem_singleton.mp hx]; exact KnA.bl _)))) 3, by simp [goodM, rowOk, cellsIn, lenOf, tupOf, g7, g6, numIn, nonneg]⟩
 ·exact ⟨KnA.str _ 3, rfl⟩
 ·exact ⟨(KnA.tup g10 (by simp) (fun x hx => by rcases List.mem_cons.mp hx with rfl | hx; exact (KnA.tup g8 (by simp) (fun x hx => by rcases List.mem_cons.mp hx with rfl | hx; exact KnA.int _; rw [List.mem_singleton.mp hx]; exact KnA.int _)); rw [List.mem_singleton.mp hx]; exact (KnA.tup g9 (by simp) (fun x hx => by rw [List.mem_singleton.mp hx]; exact KnA.int _)))) 3, by simp [goodM, rowOk, cellsIn, lenOf, tupOf, g10, g9, g8, numIn, nonneg]⟩
 ·exact ⟨(KnA.tup g12 (by simp) (fun x hx => by rw [List.mem_singleton.mp hx]; exact (KnA.tup g11 (by simp) (fun x hx => by rw [List.mem_singleton.mp hx]; exact KnA.int _)))) 3, by simp [goodM, rowOk, cellsIn, lenOf, tupOf, g12, g11, numIn, nonneg]⟩
end
end M54
namespace L2
open PySem
section
variable {X : Cx} {es : List Expr} {t : TA} {te : TE}
theorem pq_se {a b : Expr} {pos : Pos} (he : PE X (.Subscript a b pos) te) (hr : PAq X es t) : PAq X (.Subscript a b pos :: es) (tCons te t) := by unfold PAq at *; exact pa_s he hr
end
end L2
namespace M54
open PySem L2 PyProof.Rows
theorem up_twice {g : Gr} (h : g ≠ []) : upL ((g ++ g).map fun xs => xs.take 2) = false := by
 unfold upL
 rw [decide_eq_false_iff_not]
 intro z
 rw [List.map_append, List.pairwise_append] at z
 obtain ⟨x, xs, rfl⟩ := List.exists_cons_of_ne_nil h
 have := z.2.2 (x.take 2) List.mem_cons_self (x.take 2) List.mem_cons_self
 rw [Srt.lex_irr] at this
 cases this
theorem RowsG.app {H : Hp} : ∀ {bs cs : List Addr} {g g' : Gr}, RowsG H bs g → RowsG H cs g' → RowsG H (bs ++ cs) (g ++ g')
 | _, _, _, _, .nil, h => h
 | _, _, _, _, .cons r t, h => .cons r (RowsG.app t h)
section
variable {P : Program} {w : World} {K : PySem.W.Frag} {mg : Str → Option Value} {base : Heap} {f : Addr} {cdv : Value} {A : Around} {outer : List Env} {s : Shared} {H0 : Hp} {E : XK}
theorem law_oddL (TX : Txt mg) : ∃ tt, PAq (XL P w K mg base f cdv A outer s H0 E) (ixList (lawFor.getD 4 (.Pass ⟨0, 0, 0, 0⟩))) tt ∧
  ∀ (Q : List V → Hp → Prop) (p T a : Addr) (ps : Array Value) (cl : List C3) (o0 o1 o2 o3 o5 o6 o7 o8 o9 : Option V) (H : Hp), PenAt H p → H T = some (.tbl ps) → GridAt H a (cl.map row) → 1 ≤ cl.length → cl.length ≤ 12 →
   (∀ (xs : List V) (H' : Hp), Same H H' → xs.length = 7 → (∀ v ∈ xs, BadV p T clsV H' v) → Q xs H') → tt [o0, o1, o2, o3, some (.ref a), o5, o6, o7, o8, o9] H Q := by
 refine ⟨_, pq_n (pq_tq (tupq pq_nil) (pq_k (pe_callTy call_list_of rfl TX.list boot_list (pa_v (pv 4) pa_nil)) (pq_b (pe_op op_catU (pv 4) (pv 4)) (pq_tq (tupq (pq_tq (tupq (pq_i (pq_i (pq_i pq_nil)))) pq_nil)) (pq_tq (tupq (pq_tq (tupq (pq_i (pq_i (pq_tf pq_nil)))) pq_nil)) (pq_se (pe_ix ix_tup (pv 4) pe_int (fun _ _ => rfl)) pq_nil)))))), ?_⟩
 intro Q p T a ps cl o0 o1 o2 o3 o5 o6 o7 o8 o9 H hp hT hA hc1 hc12 k
 obtain ⟨bs, ha, hG⟩ := hA
 have hbl : bs.length = cl.length := by have := Paired.length hG; rwa [List.length_map] at this
 obtain ⟨b0, bs', hb0⟩ : ∃ b0 bs', bs = b0 :: bs' := List.exists_cons_of_ne_nil (fun z => by rw [z] at hbl; simp at hbl; omega)
 obtain ⟨c0, cl', hc0⟩ : ∃ c0 cl', cl = c0 :: cl' := List.exists_cons_of_ne_nil (fun z => by rw [z] at hc1; simp at hc1)
 have hB0 : H b0 = some (.tup ((row c0).map V.int)) := by rw [hb0, hc0] at hG; cases hG with | cons r _ => exact r
 have hna := tup_ne hp hT ha
 refine ⟨by show 0 ≤ sizeLine; decide, fun t1 h1 => ?_⟩
 have n1 := new_ne hp hT h1
 have s1 := same_upd (o := .tup []) h1
 have p1 := PenAt.same' hp s1
 have T1 := s1 _ _ hT
 refine ⟨_, rfl, a, _, rfl, .inr (SqT.of (s1 _ _ ha)), fun t2 h2 => ?_⟩
 have n2 := new_ne p1 T1 h2
 have s2 := same_upd (o := .lst (bs.map V.ref)) h2
 have p2 := PenAt.same' p1 s2
 have T2 := s2 _ _ T1
 refine ⟨_, rfl, _, rfl, a, a, _, _, rfl, rfl, s2 _ _ (s1 _ _ ha), s2 _ _ (s1 _ _ ha), by rw [List.length_map, sizeLine_eq]; omega, fun t3 H3 s3 h3 => ?_⟩
 have p3 := PenAt.same' p2 s3
 have T3 := s3 _ _ T2
 have n3 := tup_ne p3 T3 h3
 refine ⟨by show 3 ≤ sizeLine; decide, fun t4 h4 => ?_⟩
 have n4 := new_ne p3 T3 h4
 have s4 := same_upd (o := .tup [.int 4, .int 0, .int 1]) h4
 have p4 := PenAt.same' p3 s4
 have T4 := s4 _ _ T3
 refine ⟨by show 1 ≤ sizeLine; decide, fun t5 h5 => ?_⟩
 have n5 := new_ne p4 T4 h5
 have s5 := same_upd (o := .tup [.ref t4]) h5
 have p5 := PenAt.same' p4 s5
 have T5 := s5 _ _ T4
 refine ⟨by show 3 ≤ sizeLine; decide, fun t6 h6 => ?_⟩
 have n6 := new_ne p5 T5 h6
 have s6 := same_upd (o := .tup [.int 0, .int 0, .bl true]) h6
 have p6 := PenAt.same' p5 s6
 have T6 := s6 _ _ T5
 refine ⟨by show 1 ≤ sizeLine; decide, fun t7 h7 => ?_⟩
 have n7 := new_ne p6 T6 h7
 have s7 := same_upd (o := .tup [.ref t6]) h7
 have p7 := PenAt.same' p6 s7
 have T7 := s7 _ _ T6
 have sA := ((((((s1.trans s2).trans s3).trans s4).trans s5).trans s6).trans s7)
 refine ⟨_, rfl, a, _, 0, .ref b0, rfl, rfl, SqT.of (sA _ _ ha), (by rw [hb0]; exact atI_nat (j := 0) rfl), ?_⟩
 refine k _ _ sA rfl fun v hv H2 kk => ?_
 have g1 : H2 t1 = some (.tup []) := kk _ _ n1.1 n1.2 (s7 _ _ (s6 _ _ (s5 _ _ (s4 _ _ (s3 _ _ (s2 _ _ upd_same))))))
 have g2 : H2 t2 = some (.lst (bs.map V.ref)) := kk _ _ n2.1 n2.2 (s7 _ _ (s6 _ _ (s5 _ _ (s4 _ _ (s3 _ _ upd_same)))))
 have g3 : H2 t3 = some (.tup (bs.map V.ref ++ bs.map V.ref)) := kk _ _ n3.1 n3.2 (s7 _ _ (s6 _ _ (s5 _ _ (s4 _ _ h3))))
 have g4 : H2 t4 = some (.tup [.int 4, .int 0, .int 1]) := kk _ _ n4.1 n4.2 (s7 _ _ (s6 _ _ (s5 _ _ upd_same)))
 have g5 : H2 t5 = some (.tup [.ref t4]) := kk _ _ n5.1 n5.2 (s7 _ _ (s6 _ _ upd_same))
 have g6 : H2 t6 = some (.tup [.int 0, .int 0, .bl true]) := kk _ _ n6.1 n6.2 (s7 _ _ upd_same)
 have g7 : H2 t7 = some (.tup [.ref t6]) := kk _ _ n7.1 n7.2 upd_same
 have hne0 := tup_ne hp hT hB0
 have gB0 : H2 b0 = some (.tup ((row c0).map V.int)) := kk _ _ hne0.1 hne0.2 (sA _ _ hB0)
 have gG : RowsG H2 bs (cl.map row) := Paired.mapP hG fun b xs e => by
  have z := tup_ne hp hT e
  exact kk _ _ z.1 z.2 (sA _ _ e)
 have gT : GridAt H2 t3 (cl.map row ++ cl.map row) := ⟨bs ++ bs, by rw [g3, List.map_append], RowsG.app gG gG⟩
 simp only [List.mem_cons, List.not_mem_nil, or_false] at hv
 rcases hv with rfl | rfl | rfl | rfl | rfl | rfl | rfl
 ·exact ⟨KnA.non 3, rfl⟩
 ·exact ⟨(KnA.tup g1 (by simp) (fun x hx => by cases hx)) 3, by simp [clsV, tupOf, g1]⟩
 ·exact ⟨KnA.lst g2 3, by simp [clsV, tupOf, g2]⟩
 ·refine ⟨gT.kn (by rw [List.length_append, List.length_map]; omega) (fun xs hx => ?_) 3, ?_⟩
  ·have : xs ∈ cl.map row := by rcases List.mem_append.mp hx with z | z <;> exact z
   obtain ⟨c, _, rfl⟩ := List.mem_map.mp this
   show 3 ≤ 1000; decide
  ·rw [gT.claims]
   unfold clsG
   rw [up_twice (by rw [hc0]; simp), Bool.and_false]
 ·exact ⟨(KnA.tup g5 (by simp) (fun x hx => by rw [List.mem_singleton.mp hx]; exact (KnA.tup g4 (by simp) (fun x hx => by rcases List.mem_cons.mp hx with rfl | hx; exact KnA.int _; rcases List.mem_cons.mp hx with rfl | hx; exact KnA.int _; rw [List.mem_singleton.mp hx]; first | exact KnA.int _ | exact KnA.bl _)))) 3, by simp [clsV, clV, tupOf, g5, g4, numIn]⟩
 ·exact ⟨(KnA.tup g7 (by simp) (fun x hx => by rw [List.mem_singleton.mp hx]; exact (KnA.tup g6 (by simp) (fun x hx => by rcases List.mem_cons.mp hx with rfl | hx; exact KnA.int _; rcases List.mem_cons.mp hx with rfl | hx; exact KnA.int _; rw [List.mem_singleton.mp hx]; first | exact KnA.int _ | exact KnA.bl _)))) 3, by simp [clsV, clV, tupOf, g7, g6, numIn]⟩
 ·exact ⟨(KnA.tup gB0 (by show 3 ≤ 1000; decide) (fun x hx => by obtain ⟨n, _, rfl⟩ := List.mem_map.mp hx; exact KnA.int n)) 3, by simp [clsV, clV, tupOf, gB0, row]⟩
end
end M54
namespace L2
open PySem PySem.Spec PyProof.Rows
theorem PSq.ps' {X : Cx} {st : Stmt} {t : TS} (h : PSq X st t) : PS X st t := by unfold PSq at h; exact h
theorem atI_of {xs : List V} {d : Int} {n : Nat} (h : xs.length = n) (d0 : 0 ≤ d) (d1 : d < n) : ∃ v ∈ xs, atI xs d = some v := by
 have hd : d.toNat < xs.length := by omega
 refine ⟨xs[d.toNat], List.getElem_mem hd, ?_⟩
 have := atI_nat (List.getElem?_eq_getElem hd)
 rw [show ((d.toNat : Nat) : Int) = d by omega] at this
 exact this
theorem Fun.okC {P : Program} {w : World} {K : PySem.W.Frag} {mg : Str → Option Value} {base : Heap} {x qual : Str} {st : Stmt} {f c : Addr} {fd : FuncData} {N ps : List Str} {k : Nat} {sp : Sp} (F : Fun K x qual st f fd) (S : FnScope N ps (defScope st)) (hc : fd.code = .ref c) (len : ∀ vs H Q E, sp vs H Q E → vs.length = ps.length)
  (hbody : ∀ (A : Around) (outer : List Env) (s : Shared) (H : Hp) (vs : List V) (Q : VK) (E : XK), Room k (A.deeper (envOfC qual (defScope st) s.heap.objs.size f (.ref c))) → sp vs H Q E →
   ∃ t, PSs (cxOf CX0 P w K mg base N qual (defScope st) f (.ref c) A outer s H E).nox (defBody st) t ∧ t { nx := fun _ H' => Q .non H', rt := Q } (start N vs) H) : FnOk P w K mg base CX0 (k + 1) f fd ps sp := by
 obtain ⟨oc, od, kV, doc, pm, an, cdv, ct, osl, rfl, lk, hcd⟩ := F.ex
 have e : cdv = .ref c := hc
 subst e
 refine fn_of lk hcd S len fun A outer s H vs Q E hr hsp => ?_
 obtain ⟨t, h, q⟩ := hbody A outer s H vs Q E hr hsp
 exact ⟨t, h.nox, q⟩
theorem TabI.same {H H1 : Hp} {T : Addr} {ps : Array Value} {qual : Str} {poss : List Pos} (h : TabI H T ps qual poss) (s : Same H H1) : TabI H1 T ps qual poss :=
 ⟨s _ _ h.at', h.tr, fun pos hp => (h.cd pos hp).imp id fun ⟨c', e1, e2⟩ => ⟨c', e1, s _ _ e2⟩⟩
theorem TabI.stp {p : Addr} {H H1 : Hp} {T : Addr} {ps : Array Value} {qual : Str} {poss : List Pos} (h : TabI H T ps qual poss) (hp : PenAt H p) (s : Stp p H H1) : TabI H1 T ps qual poss := by
 obtain ⟨x, y, e⟩ := hp
 refine ⟨s.keep _ _ (fun z => by rw [← z, h.at'] at e; cases e) h.at', h.tr, fun pos hp => (h.cd pos hp).imp id fun ⟨c', e1, e2⟩ => ⟨c', e1, s.keep _ _ (fun z => ?_) e2⟩⟩
 rw [← z, e2] at e; cases e
end L2
namespace M54
open PySem L2 PyProof.Rows
section
variable {P : Program} {w : World} {K : PySem.W.Frag} {mg : Str → Option Value} {base : Heap} {f : Addr} {cdv : Value} {A : Around} {outer : List Env} {s : Shared} {H0 : Hp} {E : XK}
noncomputable def ixIdx (s : Stmt) : Expr := match s with | .Assign _ (.Subscript _ b _) _ => b | _ => .Constant .none 0 ⟨0, 0, 0, 0⟩
theorem law_badS {gD : Addr} {dD : FuncData} (hr : Room 1 (XL P w K mg base f cdv A outer s H0 E).A) (aD : At P w K mg base 1 "_law_draw" gD dD ["_law_pen_here", "_law_many"] spDraw) : ∃ tt, PS (XL P w K mg base f cdv A outer s H0 E) (lawFor.getD 3 (.Pass ⟨0, 0, 0, 0⟩)) tt ∧
  ∀ (D : Ends) (p T : Addr) (ps : Array Value) (o0 o1 o3 o4 o5 o6 o7 o8 o9 : Option V) (H : Hp), PenAt H p → H T = some (.tbl ps) →
   (∀ v H', Stp p H H' → BadV p T goodM H' v → D.nx [o0, o1, some (.ref p), o3, o4, o5, o6, o7, some v, o9] H') → tt D [o0, o1, some (.ref p), o3, o4, o5, o6, o7, o8, o9] H := by
 have nd := scLaw.nd
 obtain ⟨t, ht, kt⟩ := law_badL (P := P) (w := w) (K := K) (mg := mg) (base := base) (f := f) (cdv := cdv) (A := A) (outer := outer) (s := s) (H0 := H0) (E := E)
 obtain ⟨p1, p2, p3, p4, e⟩ : ∃ p1 p2 p3 p4, lawFor.getD 3 (.Pass ⟨0, 0, 0, 0⟩) = .Assign [.Name "_law_bad" p1] (.Subscript (.List (ixList (lawFor.getD 3 (.Pass ⟨0, 0, 0, 0⟩))) p2) (ixIdx (lawFor.getD 3 (.Pass ⟨0, 0, 0, 0⟩))) p3) p4 := ⟨_, _, _, _, rfl⟩
 rw [e]
 generalize ixList (lawFor.getD 3 (.Pass ⟨0, 0, 0, 0⟩)) = es at ht ⊢
 refine ⟨_, PSq.ps' (ps_setq (i := 8) nd rfl (Or.inr rfl) ht (pe_call aD.ok hr rfl aD.nm aD.kp aD.bd .nil pass0 (pa_v (pv 2) (pa_c pe_int pa_nil))) (fun _ _ => rfl)), ?_⟩
 intro D p T ps o0 o1 o3 o4 o5 o6 o7 o8 o9 H hp hT hD
 refine kt _ p T ps _ H hp hT fun xs H1 s1 hx hbad => ⟨by rw [hx]; decide, fun l hl => ?_⟩
 have p1 := PenAt.same' hp s1
 have T1 := s1 _ _ hT
 have nl := new_ne p1 T1 hl
 have s2 := same_upd (o := .lst xs) hl
 have p2 := PenAt.same' p1 s2
 refine ⟨_, rfl, p, 8, rfl, p2, by decide, by decide, fun d H2 d0 d1 st => ?_⟩
 obtain ⟨v, hv, hat⟩ := atI_of hx d0 d1
 refine ⟨l, xs, d, v, rfl, rfl, SqL.of (st.keep l _ nl.1 upd_same), hat, ?_⟩
 exact hD v H2 (((Stp.refl hp).same (s1.trans s2)).trans st) ((hbad v hv).kept ((Kept.same s2).trans (Kept.stp st)))
theorem law_oddS {gD : Addr} {dD : FuncData} (TX : Txt mg) (hr : Room 1 (XL P w K mg base f cdv A outer s H0 E).A) (aD : At P w K mg base 1 "_law_draw" gD dD ["_law_pen_here", "_law_many"] spDraw) : ∃ tt, PS (XL P w K mg base f cdv A outer s H0 E) (lawFor.getD 4 (.Pass ⟨0, 0, 0, 0⟩)) tt ∧
  ∀ (D : Ends) (p T a : Addr) (ps : Array Value) (cl : List C3) (o0 o1 o3 o5 o6 o7 o8 o9 : Option V) (H : Hp), PenAt H p → H T = some (.tbl ps) → GridAt H a (cl.map row) → 1 ≤ cl.length → cl.length ≤ 12 →
   (∀ v H', Stp p H H' → BadV p T clsV H' v → D.nx [o0, o1, some (.ref p), o3, some (.ref a), o5, o6, o7, o8, some v] H') → tt D [o0, o1, some (.ref p), o3, some (.ref a), o5, o6, o7, o8, o9] H := by
 have nd := scLaw.nd
 obtain ⟨t, ht, kt⟩ := law_oddL (P := P) (w := w) (K := K) (mg := mg) (base := base) (f := f) (cdv := cdv) (A := A) (outer := outer) (s := s) (H0 := H0) (E := E) TX
 obtain ⟨p1, p2, p3, p4, e⟩ : ∃ p1 p2 p3 p4, lawFor.getD 4 (.Pass ⟨0, 0, 0, 0⟩) = .Assign [.Name "_law_odd" p1] (.Subscript (.List (ixList (lawFor.getD 4 (.Pass ⟨0, 0, 0, 0⟩))) p2) (ixIdx (lawFor.getD 4 (.Pass ⟨0, 0, 0, 0⟩))) p3) p4 := ⟨_, _, _, _, rfl⟩
 rw [e]
 generalize ixList (lawFor.getD 4 (.Pass ⟨0, 0, 0, 0⟩)) = es at ht ⊢
 refine ⟨_, PSq.ps' (ps_setq (i := 9) nd rfl (Or.inr rfl) ht (pe_call aD.ok hr rfl aD.nm aD.kp aD.bd .nil pass0 (pa_v (pv 2) (pa_c pe_int pa_nil))) (fun _ _ => rfl)), ?_⟩
 intro D p T a ps cl o0 o1 o3 o5 o6 o7 o8 o9 H hp hT hA h1 h12 hD
 refine kt _ p T a ps cl _ _ _ _ _ _ _ _ _ H hp hT hA h1 h12 fun xs H1 s1 hx hbad => ⟨by rw [hx]; decide, fun l hl => ?_⟩
 have p1 := PenAt.same' hp s1
 have T1 := s1 _ _ hT
 have nl := new_ne p1 T1 hl
 have s2 := same_upd (o := .lst xs) hl
 have p2 := PenAt.same' p1 s2
 refine ⟨_, rfl, p, 7, rfl, p2, by decide, by decide, fun d H2 d0 d1 st => ?_⟩
 obtain ⟨v, hv, hat⟩ := atI_of hx d0 d1
 refine ⟨l, xs, d, v, rfl, rfl, SqL.of (st.keep l _ nl.1 upd_same), hat, ?_⟩
 exact hD v H2 (((Stp.refl hp).same (s1.trans s2)).trans st) ((hbad v hv).kept ((Kept.same s2).trans (Kept.stp st)))
end
noncomputable def lamOf (s : Stmt) : Expr := match s with | .If (.Compare (.Call _ (l :: _) _ _) _ _ _) _ _ _ => l | _ => .Constant .none 0 ⟨0, 0, 0, 0⟩
noncomputable def lamA (e : Expr) (d : Arguments) : Arguments := match e with | .Lambda a _ _ _ => a | _ => d
noncomputable def lamB (e : Expr) : Expr := match e with | .Lambda _ b _ _ => b | e => e
noncomputable def lamS (e : Expr) : Scope := match e with | .Lambda _ _ s _ => s | _ => defScope sLaw
noncomputable def lamP (e : Expr) : Pos := match e with | .Lambda _ _ _ p => p | _ => ⟨0, 0, 0, 0⟩
noncomputable abbrev lam1 : Expr := lamOf (lawFor.getD 5 (.Pass ⟨0, 0, 0, 0⟩))
noncomputable abbrev lam2 : Expr := lamOf (lawFor.getD 6 (.Pass ⟨0, 0, 0, 0⟩))
noncomputable abbrev posL : List Pos := [lamP lam1, lamP lam2]
noncomputable abbrev qL : Str := "law.<locals>.<lambda>"
section
variable {P : Program} {w : World} {K : PySem.W.Frag} {mg : Str → Option Value} {base : Heap} {f c T : Addr} {A : Around} {outer : List Env} {s : Shared} {H0 : Hp} {E : XK}
theorem lt1 (C : PySem.W.CodeHd base c T) (B : BMain mg base) : LamT (XL P w K mg base f (.ref c) A outer s H0 E) c T qL posL (lamA lam1 (defArgs sLaw)) (lamB lam1) (lamS lam1) (lamP lam1) "_law_bad" 8 where
 hs := rfl
 hf := rfl
 hfn := rfl
 hcode := rfl
 C := C
 bm := B
 hpos := List.mem_cons_self
 hap := fun q hq hne => by
  rcases List.mem_cons.mp hq with z | z
  ·exact absurd z hne
  ·rw [List.mem_singleton.mp z]; decide +kernel
 hq := by first | rfl | kernel_rfl
 hdef := rfl
 hbind := fun _ _ _ _ => rfl
 hco := rfl
 hgen := rfl
 hk := rfl
 hcell := by decide +kernel
 hfree := by decide +kernel
 hy := rfl
 hyX := rfl
 hN := rfl
theorem lt2' (C : PySem.W.CodeHd base c T) (B : BMain mg base) : LamT (XL P w K mg base f (.ref c) A outer s H0 E) c T qL posL (lamA lam2 (defArgs sLaw)) (lamB lam2) (lamS lam2) (lamP lam2) "_law_odd" 9 where
 hs := rfl
 hf := rfl
 hfn := rfl
 hcode := rfl
 C := C
 bm := B
 hpos := List.mem_cons_of_mem _ List.mem_cons_self
 hap := fun q hq hne => by
  rcases List.mem_cons.mp hq with z | z
  ·rw [z]; decide +kernel
  ·exact absurd (List.mem_singleton.mp z) hne
 hq := by first | rfl | kernel_rfl
 hdef := rfl
 hbind := fun _ _ _ _ => rfl
 hco := rfl
 hgen := rfl
 hk := rfl
 hcell := by decide +kernel
 hfree := by decide +kernel
 hy := rfl
 hyX := rfl
 hN := rfl
end
end M54
namespace L2
open PySem PySem.Spec PyProof.Rows
theorem pass10 {X : Cx} : Passes (CX1 X.prog X.w) X E0 := by
 intro pins σ H s e s' I h
 obtain ⟨a, cls, H', rfl, F, q⟩ := h
 exact q.elim
end L2
namespace M54
open PySem L2 PyProof.Rows
section
variable {P : Program} {w : World} {K : PySem.W.Frag} {mg : Str → Option Value} {base : Heap} {f c T : Addr} {A : Around} {outer : List Env} {s : Shared} {H0 : Hp} {E : XK}
theorem law_tell1 {cE cM cC cN cT gT gS : Addr} {dT dS : FuncData} (hr : Room 8 (XL P w K mg base f (.ref c) A outer s H0 E).A) (C : PySem.W.CodeHd base c T) (B : BMain mg base) (cl : Cls K mg cE cM cC cN cT)
  (nT : mg "_law_told" = some (.ref gT)) (kT : PySem.W.keepIn K (.ref gT) = true) (bT : L2.Binds K dT ["_law_call"] []) (oT : FnOkS P w K mg base 8 gT dT ["_law_call"] (spTold P w K mg base cE cM cC cN cT)) (aS : AtX P w K mg base 6 "shown_mead" gS dS ["mead"] (spShown cM "/" goodM)) :
  ∃ tt, PS (XL P w K mg base f (.ref c) A outer s H0 E) (lawFor.getD 5 (.Pass ⟨0, 0, 0, 0⟩)) tt ∧
  ∀ (D : Ends) (p : Addr) (ps : Array Value) (o0 o1 o2 o3 o4 o5 o6 o7 o9 : Option V) (v : V) (H : Hp), TabI H T ps qL posL → BadV p T goodM H v →
   (∀ ps' H1 H2, Grow T H H1 → Same H1 H2 → TabI H2 T ps' qL posL → D.nx [o0, o1, o2, o3, o4, o5, o6, o7, some v, o9] H2) → tt D [o0, o1, o2, o3, o4, o5, o6, o7, some v, o9] H := by
 refine ⟨_, ps_if (pt_cmpR op_ne (pe_tell oT hr rfl nT kT bT (lt1 C B)) pe_str (nomark _)) (pss_one (ps_ret pe_bl)) pss_nil, ?_⟩
 intro D p ps o0 o1 o2 o3 o4 o5 o6 o7 o9 v H hT hv hD
 refine ⟨ps, v, hT, rfl, fun g ps' H1 h gr T1 R => ?_⟩
 obtain ⟨fa, hn, hfr, c', cls, run⟩ := R
 refine ⟨g, cM, true, rfl, cl.dM, fa, hn, hfr, fun A' outer' s' Q' E' hr' e0 keep hE => ?_, fun H2 s2 => ?_⟩
 ·have kn := hv H1 (Kept.grow gr)
  refine run A' outer' s' Q' E' 6 hr' e0 keep ⟨_, pe_call aS.ok (hr'.deeper _) rfl aS.nm aS.kp aS.bd .nil passL (pa_v (pv 0) pa_nil), ?_⟩
  exact ⟨_, rfl, v, rfl, kn.1, .inr ⟨kn.2, hE⟩⟩
 ·refine ⟨rfl, _, rfl, iteF (hD ps' H1 H2 gr s2 (T1.same s2))⟩
theorem law_tell2 {cE cM cC cN cT gT gS : Addr} {dT dS : FuncData} (hr : Room 8 (XL P w K mg base f (.ref c) A outer s H0 E).A) (C : PySem.W.CodeHd base c T) (B : BMain mg base) (cl : Cls K mg cE cM cC cN cT)
  (nT : mg "_law_told" = some (.ref gT)) (kT : PySem.W.keepIn K (.ref gT) = true) (bT : L2.Binds K dT ["_law_call"] []) (oT : FnOkS P w K mg base 8 gT dT ["_law_call"] (spTold P w K mg base cE cM cC cN cT)) (aS : AtX P w K mg base 6 "shown_claims" gS dS ["claims"] (spShown cC ";" clsV)) :
  ∃ tt, PS (XL P w K mg base f (.ref c) A outer s H0 E) (lawFor.getD 6 (.Pass ⟨0, 0, 0, 0⟩)) tt ∧
  ∀ (D : Ends) (p : Addr) (ps : Array Value) (o0 o1 o2 o3 o4 o5 o6 o7 o8 : Option V) (v : V) (H : Hp), TabI H T ps qL posL → BadV p T clsV H v →
   (∀ ps' H1 H2, Grow T H H1 → Same H1 H2 → TabI H2 T ps' qL posL → D.nx [o0, o1, o2, o3, o4, o5, o6, o7, o8, some v] H2) → tt D [o0, o1, o2, o3, o4, o5, o6, o7, o8, some v] H := by
 refine ⟨_, ps_if (pt_cmpR op_ne (pe_tell oT hr rfl nT kT bT (lt2' C B)) pe_str (nomark _)) (pss_one (ps_ret pe_bl)) pss_nil, ?_⟩
 intro D p ps o0 o1 o2 o3 o4 o5 o6 o7 o8 v H hT hv hD
 refine ⟨ps, v, hT, rfl, fun g ps' H1 h gr T1 R => ?_⟩
 obtain ⟨fa, hn, hfr, c', cls, run⟩ := R
 refine ⟨g, cC, false, rfl, cl.dC, fa, hn, hfr, fun A' outer' s' Q' E' hr' e0 keep hE => ?_, fun H2 s2 => ?_⟩
 ·have kn := hv H1 (Kept.grow gr)
  refine run A' outer' s' Q' E' 6 hr' e0 keep ⟨_, pe_call aS.ok (hr'.deeper _) rfl aS.nm aS.kp aS.bd .nil passL (pa_v (pv 0) pa_nil), ?_⟩
  exact ⟨_, rfl, v, rfl, kn.1, .inr ⟨kn.2, hE⟩⟩
 ·refine ⟨rfl, _, rfl, iteF (hD ps' H1 H2 gr s2 (T1.same s2))⟩
end
end M54
namespace M54
open PySem L2 PyProof.Rows Grd
structure Gd (g : Gr) : Prop where
 sm : SmG g
 ne : g ≠ []
 rw : ∀ ns ∈ g, ns ≠ [] ∧ ∀ n ∈ ns, -2 ≤ n ∧ n ≤ 99
theorem gd_mead {g : Grid} {w : Nat} (h : Good g w) : Gd g :=
 ⟨⟨by have := h.h4; omega, fun ns hn => ⟨by have := h.len ns hn; have := h.w5; omega, h.num ns hn⟩⟩, (fun z => by have := h.h1; rw [z] at this; simp at this), fun ns hn => ⟨(fun z => by have h1 := h.len ns hn; have h2 := h.w1; rw [z] at h1; simp at h1; omega), h.num ns hn⟩⟩
theorem gd_claims {cl : List C3} (h : ClOk cl) : Gd (cl.map row) := by
 have hn : ∀ ns ∈ cl.map row, ns ≠ [] ∧ ns.length ≤ 5 ∧ ∀ n ∈ ns, -2 ≤ n ∧ n ≤ 99 := fun ns hn => by
  obtain ⟨c, hc, rfl⟩ := List.mem_map.mp hn
  have := h.num c hc
  refine ⟨by unfold row; simp, by show 3 ≤ 5; decide, fun n hn => ?_⟩
  unfold row at hn
  simp only [List.mem_cons, List.not_mem_nil, or_false] at hn
  rcases hn with rfl | rfl | rfl <;> omega
 exact ⟨⟨by rw [List.length_map]; exact h.l12, fun ns z => (hn ns z).2⟩, (fun z => by have := h.l1; have e := congrArg List.length z; rw [List.length_map] at e; simp at e; rw [e] at this; simp at this), fun ns z => ⟨(hn ns z).1, (hn ns z).2.2⟩⟩
theorem Gd.kn {g : Gr} (h : Gd g) {H : Hp} {a : Addr} (hA : GridAt H a g) : KnA H (.ref a) := hA.kn (by have := h.sm.1; omega) fun xs hx => by have := (h.sm.2 xs hx).1; omega
theorem Gd.same {g : Gr} (h : Gd g) {H : Hp} {a b : Addr} (hA : GridAt H a g) (hB : GridAt H b g) : SameV H 2 (.ref a) (.ref b) := grid_same hA hB (by have := h.sm.1; omega) fun xs hx => by have := (h.sm.2 xs hx).1; omega
section
variable {P : Program} {w : World} {K : PySem.W.Frag} {mg : Str → Option Value} {base : Heap} {f : Addr} {cdv : Value} {A : Around} {outer : List Env} {s : Shared} {H0 : Hp} {E : XK}
noncomputable abbrev lawIn : List Stmt := forBody (lawFor.getD 2 (.Pass ⟨0, 0, 0, 0⟩))
theorem law_in {cM cC cT g1 g2 g3 g4 g5 g6 g7 : Addr} {d1 d2 d3 d4 d5 d6 d7 : FuncData} (hr : Room 8 (XL P w K mg base f cdv A outer s H0 E).A) (a1 : At P w K mg base 2 "_law_mead_text" g1 d1 ["_law_mead_here"] (spTextOf "/")) (a2 : At P w K mg base 2 "_law_claims_text" g2 d2 ["_law_claims_here"] (spTextOf ";"))
  (a3 : At P w K mg base 4 "_law_same" g3 d3 ["_law_thing", "_law_due"] (spSame 3)) (a4 : AtX P w K mg base 6 "shown_mead" g4 d4 ["mead"] (spShown cM "/" goodM)) (a5 : AtX P w K mg base 6 "shown_claims" g5 d5 ["claims"] (spShown cC ";" clsV))
  (a6 : AtX P w K mg base 5 "read_mead" g6 d6 ["text"] (spRead cT goodMT (gridOf "/"))) (a7 : AtX P w K mg base 5 "read_claims" g7 d7 ["text"] (spRead cT goodCT (gridOf ";"))) :
  ∃ tt, PSs (XL P w K mg base f cdv A outer s H0 E) lawIn tt ∧
  ∀ (D : Ends) (o0 o1 o2 o3 o4 o7 o8 o9 : Option V) (a b : Addr) (g g' : Gr) (H : Hp), GridAt H a g → Gd g → meadG g = true → GridAt H b g' → Gd g' → clsG g' = true →
   (∀ o7' H', Same H H' → D.nx [o0, o1, o2, o3, o4, some (.ref a), some (.ref b), o7', o8, o9] H') → tt D [o0, o1, o2, o3, o4, some (.ref a), some (.ref b), o7, o8, o9] H := by
 have nd := scLaw.nd
 have r2 : Room 2 (XL P w K mg base f cdv A outer s H0 E).A := hr.mono (by decide)
 have r4 : Room 4 (XL P w K mg base f cdv A outer s H0 E).A := hr.mono (by decide)
 have r5 : Room 5 (XL P w K mg base f cdv A outer s H0 E).A := hr.mono (by decide)
 have r6 : Room 6 (XL P w K mg base f cdv A outer s H0 E).A := hr.mono (by decide)
 refine ⟨_, pss_cons (ps_set (i := 7) nd rfl (Or.inl rfl) (pe_lst (pa_k (pe_call a1.ok r2 rfl a1.nm a1.kp a1.bd .nil pass0 (pa_v (pv 5) pa_nil)) (pa_k (pe_call a2.ok r2 rfl a2.nm a2.kp a2.bd .nil pass0 (pa_v (pv 6) pa_nil)) pa_nil)))) <|
  pss_cons (ps_if (pt_not (pt_val (pe_call a3.ok r4 rfl a3.nm a3.kp a3.bd .nil pass0 (pa_l (pe_lst (pa_k (pe_call a4.ok r6 rfl a4.nm a4.kp a4.bd .nil pass10 (pa_v (pv 5) pa_nil)) (pa_k (pe_call a5.ok r6 rfl a5.nm a5.kp a5.bd .nil pass10 (pa_v (pv 6) pa_nil)) pa_nil))) (pa_v (pv 7) pa_nil))))) (pss_one (ps_ret pe_bl)) pss_nil) <|
  pss_one (ps_if (pt_not (pt_val (pe_call a3.ok r4 rfl a3.nm a3.kp a3.bd .nil pass0 (pa_l (pe_lst (pa_k (pe_call a6.ok r5 rfl a6.nm a6.kp a6.bd .nil pass10 (pa_s (pe_ix ix_list (pv 7) pe_int (fun _ _ => rfl)) pa_nil)) (pa_k (pe_call a7.ok r5 rfl a7.nm a7.kp a7.bd .nil pass10 (pa_s (pe_ix ix_list (pv 7) pe_int (fun _ _ => rfl)) pa_nil)) pa_nil))) (pa_l (pe_lst (pa_v (pv 5) (pa_v (pv 6) pa_nil))) pa_nil))))) (pss_one (ps_ret pe_bl)) pss_nil), ?_⟩
 intro D o0 o1 o2 o3 o4 o7 o8 o9 a b g g' H hA gA mA hB gB cB hD
 have rA := read_back sep47 (.inl rfl) gA.ne gA.rw
 have rB := read_back sep59 (.inr rfl) gB.ne gB.rw
 have lA := gA.sm.len (sep := "/") rfl
 have lB := gB.sm.len (sep := ";") rfl
 have okA : goodMT (textS "/" g) = true := by unfold goodMT; rw [rA.1, rA.2, mA]; rfl
 have okB : goodCT (textS ";" g') = true := by unfold goodCT; rw [rB.1, rB.2, cB]; rfl
 refine ⟨_, rfl, a, g, rfl, hA, gA.sm, fun H1 s1 => ?_⟩
 refine ⟨_, rfl, b, g', rfl, hB.same s1, gB.sm, fun H2 s2 => ?_⟩
 refine ⟨by show 2 ≤ sizeLine; decide, fun lt hlt => ?_⟩
 have s3 := same_upd (o := .lst [.str (textS "/" g), .str (textS ";" g')]) hlt
 have sA := (s1.trans s2).trans s3
 have hA3 := hA.same sA
 refine ⟨_, rfl, _, rfl, gA.kn hA3 3, .inl ⟨by rw [hA3.mead]; exact mA, a, g, rfl, hA3, gA.sm, fun H4 s4 => ?_⟩⟩
 have hB4 := hB.same (sA.trans s4)
 refine ⟨_, rfl, _, rfl, gB.kn hB4 3, .inl ⟨by rw [hB4.claims]; exact cB, b, g', rfl, hB4, gB.sm, fun H5 s5 => ?_⟩⟩
 refine ⟨by show 2 ≤ sizeLine; decide, fun l2 hl2 => ?_⟩
 have s6 := same_upd (o := .lst [.str (textS "/" g), .str (textS ";" g')]) hl2
 have hlt6 := (s4.trans s5).trans s6 _ _ (upd_same (H := H2) (a := lt) (o := .lst [.str (textS "/" g), .str (textS ";" g')]))
 refine ⟨_, rfl, _, _, rfl, .inr ⟨l2, lt, _, _, rfl, rfl, .inl ⟨upd_same, hlt6⟩, by show 2 ≤ 1000; decide, .cons (SameV.str 2 _) (.cons (SameV.str 2 _) .nil)⟩, fun H7 s7 => ⟨_, rfl, iteF ?_⟩⟩
 have hlt7 := s7 _ _ hlt6
 refine ⟨_, rfl, lt, _, 0, _, rfl, rfl, SqL.of hlt7, atI_nat (j := 0) rfl, _, rfl, True.intro, fun t e => ?_, fun e => by cases e⟩
 cases e
 refine ⟨by omega, fun _ p1 H8 s8 hp1 => ?_, fun e => by rw [okA] at e; cases e⟩
 rw [rA.2] at hp1
 refine ⟨_, rfl, lt, _, 1, _, rfl, rfl, SqL.of (s8 _ _ hlt7), atI_nat (j := 1) rfl, _, rfl, True.intro, fun t e => ?_, fun e => by cases e⟩
 cases e
 refine ⟨by omega, fun _ p2 H9 s9 hp2 => ?_, fun e => by rw [okB] at e; cases e⟩
 rw [rB.2] at hp2
 refine ⟨by show 2 ≤ sizeLine; decide, fun l3 hl3 => ?_⟩
 have s10 := same_upd (o := .lst [.ref p1, .ref p2]) hl3
 refine ⟨_, rfl, _, rfl, by show 2 ≤ sizeLine; decide, fun l4 hl4 => ?_⟩
 have s11 := same_upd (o := .lst [.ref a, .ref b]) hl4
 have sB := (((sA.trans s4).trans s5).trans s6).trans (((s7.trans s8).trans s9).trans (s10.trans s11))
 refine ⟨_, _, rfl, .inr ⟨l3, l4, _, _, rfl, rfl, .inl ⟨s11 _ _ upd_same, upd_same⟩, by show 2 ≤ 1000; decide, .cons (gA.same (hp1.same (s9.trans (s10.trans s11))) (hA.same sB)) (.cons (gB.same (hp2.same (s10.trans s11)) (hB.same sB)) .nil)⟩, fun H12 s12 => ⟨_, rfl, iteF ?_⟩⟩
 exact hD _ _ (sB.trans s12)
end
end M54
namespace M54
open PySem L2 PyProof.Rows Grd
noncomputable def spLaw (K : PySem.W.Frag) (T : Addr) : Sp := fun vs H Q _ => ∃ (a : Addr) (ns : List Int), vs = [.ref a] ∧ SqL K H a (ns.map V.int) ∧ H T = some (.tbl #[]) ∧ ns.length ≤ 63 ∧ ∀ H', Q (.bl true) H'
theorem cutV_mem {xs : List V} {lo hi : Option Int} {x : V} (h : x ∈ cutV xs lo hi) : x ∈ xs := List.mem_of_mem_drop (List.mem_of_mem_take h)
section
variable {P : Program} {w : World} {K : PySem.W.Frag} {mg : Str → Option Value} {base : Heap} {f : Addr} {cdv : Value} {A : Around} {outer : List Env} {s : Shared} {H0 : Hp} {E : XK}
theorem law_two {cM cC cT g1 g2 g3 g4 g5 g6 g7 : Addr} {d1 d2 d3 d4 d5 d6 d7 : FuncData} (hr : Room 8 (XL P w K mg base f cdv A outer s H0 E).A) (a1 : At P w K mg base 2 "_law_mead_text" g1 d1 ["_law_mead_here"] (spTextOf "/")) (a2 : At P w K mg base 2 "_law_claims_text" g2 d2 ["_law_claims_here"] (spTextOf ";"))
  (a3 : At P w K mg base 4 "_law_same" g3 d3 ["_law_thing", "_law_due"] (spSame 3)) (a4 : AtX P w K mg base 6 "shown_mead" g4 d4 ["mead"] (spShown cM "/" goodM)) (a5 : AtX P w K mg base 6 "shown_claims" g5 d5 ["claims"] (spShown cC ";" clsV))
  (a6 : AtX P w K mg base 5 "read_mead" g6 d6 ["text"] (spRead cT goodMT (gridOf "/"))) (a7 : AtX P w K mg base 5 "read_claims" g7 d7 ["text"] (spRead cT goodCT (gridOf ";"))) :
  ∃ tt, PS (XL P w K mg base f cdv A outer s H0 E) (lawFor.getD 2 (.Pass ⟨0, 0, 0, 0⟩)) tt ∧
  ∀ (D : Ends) (o0 o1 o2 o5 o6 o7 o8 o9 : Option V) (a b : Addr) (g g' : Gr) (H : Hp), GridAt H a g → Gd g → meadG g = true → GridAt H b g' → Gd g' → clsG g' = true →
   (∀ o5' o6' o7' H', Same H H' → D.nx [o0, o1, o2, some (.ref a), some (.ref b), o5', o6', o7', o8, o9] H') → tt D [o0, o1, o2, some (.ref a), some (.ref b), o5, o6, o7, o8, o9] H := by
 have nd := scLaw.nd
 obtain ⟨tb, hb, rb⟩ := law_in (P := P) (w := w) (K := K) (mg := mg) (base := base) (f := f) (cdv := cdv) (A := A) (outer := outer) (s := s) (H0 := H0) (E := E) hr a1 a2 a3 a4 a5 a6 a7
 refine ⟨_, ps_for PassesOwn.never rfl (pi_list (pe_lst (pa_t (pe_tup (pa_v (pv 3) (pa_v (pv 4) pa_nil))) (pa_t (pe_tup (pa_t (pe_tup (pa_t (pe_tup (pa_c pe_int pa_nil)) pa_nil)) (pa_t (pe_tup (pa_t (pe_tup (pa_c pe_int (pa_c pe_int (pa_c pe_int pa_nil)))) pa_nil)) pa_nil))) pa_nil)))) (pg_tup rfl (pgs_cons (pg_name (i := 5) nd rfl (Or.inl rfl)) (pgs_cons (pg_name (i := 6) nd rfl (Or.inl rfl)) pgs_nil))) hb, ?_⟩
 intro D o0 o1 o2 o5 o6 o7 o8 o9 a b g g' H hA gA mA hB gB cB hD
 refine ⟨_, rfl, _, rfl, by show 2 ≤ sizeLine; decide, fun q1 h1 => ?_⟩
 have s1 := same_upd (o := .tup [.ref a, .ref b]) h1
 refine ⟨by show 1 ≤ sizeLine; decide, fun q2 h2 => ?_⟩
 have s2 := same_upd (o := .tup [.int 0]) h2
 refine ⟨by show 1 ≤ sizeLine; decide, fun q3 h3 => ?_⟩
 have s3 := same_upd (o := .tup [.ref q2]) h3
 refine ⟨by show 3 ≤ sizeLine; decide, fun q4 h4 => ?_⟩
 have s4 := same_upd (o := .tup [.int 3, .int 5, .int 20]) h4
 refine ⟨by show 1 ≤ sizeLine; decide, fun q5 h5 => ?_⟩
 have s5 := same_upd (o := .tup [.ref q4]) h5
 refine ⟨by show 2 ≤ sizeLine; decide, fun q6 h6 => ?_⟩
 have s6 := same_upd (o := .tup [.ref q3, .ref q5]) h6
 refine ⟨by show 2 ≤ sizeLine; decide, fun l hl => ?_⟩
 have s7 := same_upd (o := .lst [.ref q1, .ref q6]) hl
 have e1 := (((((s2.trans s3).trans s4).trans s5).trans s6).trans s7) q1 (.tup [.ref a, .ref b]) upd_same
 have e2 := ((((s3.trans s4).trans s5).trans s6).trans s7) q2 (.tup [.int 0]) upd_same
 have e3 := (((s4.trans s5).trans s6).trans s7) q3 (.tup [.ref q2]) upd_same
 have e4 := ((s5.trans s6).trans s7) q4 (.tup [.int 3, .int 5, .int 20]) upd_same
 have e5 := (s6.trans s7) q5 (.tup [.ref q4]) upd_same
 have e6 := s7 q6 (.tup [.ref q3, .ref q5]) upd_same
 have sA := (((((s1.trans s2).trans s3).trans s4).trans s5).trans s6).trans s7
 have gX : GridAt _ q3 [[0]] := ⟨[q2], e3, .cons e2 .nil⟩
 have gY : GridAt _ q5 [[3, 5, 20]] := ⟨[q4], e5, .cons e4 .nil⟩
 have hAA := hA.same sA
 have hBB := hB.same sA
 refine ⟨l, rfl, ⟨_, SqL.of upd_same⟩, ?_⟩
 have hll := upd_same (H := (upd (upd (upd (upd (upd (upd H q1 (.tup [.ref a, .ref b])) q2 (.tup [.int 0])) q3 (.tup [.ref q2])) q4 (.tup [.int 3, .int 5, .int 20])) q5 (.tup [.ref q4])) q6 (.tup [.ref q3, .ref q5]))) (a := l) (o := .lst [.ref q1, .ref q6])
 generalize upd (upd (upd (upd (upd (upd (upd H q1 (.tup [.ref a, .ref b])) q2 (.tup [.int 0])) q3 (.tup [.ref q2])) q4 (.tup [.int 3, .int 5, .int 20])) q5 (.tup [.ref q4])) q6 (.tup [.ref q3, .ref q5])) l (.lst [.ref q1, .ref q6]) = HH at *
 refine for_list (K := K) (a := l) (xs := [.ref q1, .ref q6]) (fun j σ H7 => (∃ o5 o6 o7, σ = [o0, o1, o2, some (.ref a), some (.ref b), o5, o6, o7, o8, o9]) ∧ Same HH H7)
  ⟨⟨_, _, _, rfl⟩, Same.refl _⟩ (fun j σ H7 _ h => SqL.of (h.2 _ _ hll)) ?_ ?_
 ·rintro j y σ H7 hj ⟨⟨o5, o6, o7, rfl⟩, s7⟩
  match j, hj with
  | 0, hj =>
   cases hj
   refine ⟨q1, _, rfl, SqT.of (s7 _ _ e1), rfl, _, _, rfl, _, _, rfl, rfl, ?_⟩
   exact rb _ _ _ _ _ _ _ _ _ a b g g' H7 (hAA.same s7) gA mA (hBB.same s7) gB cB fun o7' H8 s8 => ⟨⟨_, _, _, rfl⟩, s7.trans s8⟩
  | 1, hj =>
   cases hj
   refine ⟨q6, _, rfl, SqT.of (s7 _ _ e6), rfl, _, _, rfl, _, _, rfl, rfl, ?_⟩
   exact rb _ _ _ _ _ _ _ _ _ q3 q5 [[0]] [[3, 5, 20]] H7 (gX.same s7) ⟨⟨by decide, (by unfold Sm; decide)⟩, by decide, by decide⟩ (by decide) (gY.same s7) ⟨⟨by decide, (by unfold Sm; decide)⟩, by decide, by decide⟩ (by decide) fun o7' H8 s8 => ⟨⟨_, _, _, rfl⟩, s7.trans s8⟩
  | j + 2, hj => cases hj
 ·rintro σ H7 ⟨⟨o5, o6, o7, rfl⟩, s7⟩
  exact hD _ _ _ H7 (sA.trans s7)
end
end M54
namespace M54
open PySem L2 PyProof.Rows Grd
section
variable {P : Program} {w : World} {K : PySem.W.Frag} {mg : Str → Option Value} {base : Heap}
structure Calls (P : Program) (w : World) (K : PySem.W.Frag) (mg : Str → Option Value) (base : Heap) (cE cM cC cN cT : Addr) : Prop where
 cl : Cls K mg cE cM cC cN cT
 cell : ∃ g d, At P w K mg base 1 "_law_cell" g d ["_law_script", "_law_k"] (spCell K)
 pen : ∃ g d, At P w K mg base 1 "_law_pen" g d ["_law_cell_here"] spPen
 draw : ∃ g d, At P w K mg base 1 "_law_draw" g d ["_law_pen_here", "_law_many"] spDraw
 mead : ∃ g d, At P w K mg base 2 "_law_mead" g d ["_law_pen_here", "_law_most"] spMeadL
 claims : ∃ g d, At P w K mg base 2 "_law_claims" g d ["_law_pen_here"] spClaimsL
 mt : ∃ g d, At P w K mg base 2 "_law_mead_text" g d ["_law_mead_here"] (spTextOf "/")
 ct : ∃ g d, At P w K mg base 2 "_law_claims_text" g d ["_law_claims_here"] (spTextOf ";")
 same : ∃ g d, At P w K mg base 4 "_law_same" g d ["_law_thing", "_law_due"] (spSame 3)
 sm : ∃ g d, AtX P w K mg base 6 "shown_mead" g d ["mead"] (spShown cM "/" goodM)
 sc : ∃ g d, AtX P w K mg base 6 "shown_claims" g d ["claims"] (spShown cC ";" clsV)
 rm : ∃ g d, AtX P w K mg base 5 "read_mead" g d ["text"] (spRead cT goodMT (gridOf "/"))
 rc : ∃ g d, AtX P w K mg base 5 "read_claims" g d ["text"] (spRead cT goodCT (gridOf ";"))
 told : ∃ g d, mg "_law_told" = some (.ref g) ∧ PySem.W.keepIn K (.ref g) = true ∧ L2.Binds K d ["_law_call"] [] ∧ FnOkS P w K mg base 8 g d ["_law_call"] (spTold P w K mg base cE cM cC cN cT)
variable {f c T : Addr} {A : Around} {outer : List Env} {s : Shared} {H0 : Hp} {E : XK} {cE cM cC cN cT : Addr}
theorem law_0 (TX : Txt mg) (hr : Room 8 (XL P w K mg base f (.ref c) A outer s H0 E).A) (C : PySem.W.CodeHd base c T) (B : BMain mg base) (L : Calls P w K mg base cE cM cC cN cT) : ∃ tt, PSs (XL P w K mg base f (.ref c) A outer s H0 E) lawFor tt ∧
  ∀ (D : Ends) (o0 o2 o3 o4 o5 o6 o7 o8 o9 : Option V) (i : Int) (ps : Array Value) (H : Hp), TabI H T ps qL posL →
   (∀ o2 o3 o4 o5 o6 o7 o8 o9 ps' H', (∀ b u, b ≠ T → H b = some u → H' b = some u) → TabI H' T ps' qL posL → D.nx [o0, some (.int i), o2, o3, o4, o5, o6, o7, o8, o9] H') → tt D [o0, some (.int i), o2, o3, o4, o5, o6, o7, o8, o9] H := by
 have nd := scLaw.nd
 have r1 : Room 1 (XL P w K mg base f (.ref c) A outer s H0 E).A := hr.mono (by decide)
 have r2 : Room 2 (XL P w K mg base f (.ref c) A outer s H0 E).A := hr.mono (by decide)
 obtain ⟨gE, dE, aE⟩ := L.pen
 obtain ⟨gD, dD, aD⟩ := L.draw
 obtain ⟨gM, dM, aM⟩ := L.mead
 obtain ⟨gC, dC, aC⟩ := L.claims
 obtain ⟨_, _, b1⟩ := L.mt
 obtain ⟨_, _, b2⟩ := L.ct
 obtain ⟨_, _, b3⟩ := L.same
 obtain ⟨_, _, b4⟩ := L.sm
 obtain ⟨_, _, b5⟩ := L.sc
 obtain ⟨_, _, b6⟩ := L.rm
 obtain ⟨_, _, b7⟩ := L.rc
 obtain ⟨gT, dT, nT, kT, bT, oT⟩ := L.told
 obtain ⟨t2, h2, k2⟩ := law_two (P := P) (w := w) (K := K) (mg := mg) (base := base) (f := f) (cdv := .ref c) (A := A) (outer := outer) (s := s) (H0 := H0) (E := E) hr b1 b2 b3 b4 b5 b6 b7
 obtain ⟨t3, h3, k3⟩ := law_badS (P := P) (w := w) (K := K) (mg := mg) (base := base) (f := f) (cdv := .ref c) (A := A) (outer := outer) (s := s) (H0 := H0) (E := E) r1 aD
 obtain ⟨t4, h4, k4⟩ := law_oddS (P := P) (w := w) (K := K) (mg := mg) (base := base) (f := f) (cdv := .ref c) (A := A) (outer := outer) (s := s) (H0 := H0) (E := E) TX r1 aD
 obtain ⟨t5, h5, k5⟩ := law_tell1 (P := P) (w := w) (K := K) (mg := mg) (base := base) (f := f) (c := c) (T := T) (A := A) (outer := outer) (s := s) (H0 := H0) (E := E) hr C B L.cl nT kT bT oT b4
 obtain ⟨t6, h6, k6⟩ := law_tell2 (P := P) (w := w) (K := K) (mg := mg) (base := base) (f := f) (c := c) (T := T) (A := A) (outer := outer) (s := s) (H0 := H0) (E := E) hr C B L.cl nT kT bT oT b5
 have e : lawFor = [lawFor.getD 0 (.Pass ⟨0, 0, 0, 0⟩), lawFor.getD 1 (.Pass ⟨0, 0, 0, 0⟩), lawFor.getD 2 (.Pass ⟨0, 0, 0, 0⟩), lawFor.getD 3 (.Pass ⟨0, 0, 0, 0⟩), lawFor.getD 4 (.Pass ⟨0, 0, 0, 0⟩), lawFor.getD 5 (.Pass ⟨0, 0, 0, 0⟩), lawFor.getD 6 (.Pass ⟨0, 0, 0, 0⟩)] := rfl
 rw [e]
 generalize lawFor.getD 2 (.Pass ⟨0, 0, 0, 0⟩) = st2 at h2 ⊢
 generalize lawFor.getD 3 (.Pass ⟨0, 0, 0, 0⟩) = st3 at h3 ⊢
 generalize lawFor.getD 4 (.Pass ⟨0, 0, 0, 0⟩) = st4 at h4 ⊢
 generalize lawFor.getD 5 (.Pass ⟨0, 0, 0, 0⟩) = st5 at h5 ⊢
 generalize lawFor.getD 6 (.Pass ⟨0, 0, 0, 0⟩) = st6 at h6 ⊢
 refine ⟨_, pss_cons (ps_set (i := 2) nd rfl (Or.inl rfl) (pe_call aE.ok r1 rfl aE.nm aE.kp aE.bd .nil pass0 (pa_v (pv 1) pa_nil))) <|
  pss_cons (ps_par (i := 3) (j := 4) rfl nd rfl rfl (by decide) rfl rfl (pa_k (pe_call aM.ok r2 rfl aM.nm aM.kp aM.bd .nil pass0 (pa_v (pv 2) (pa_c pe_int pa_nil))) (pa_k (pe_call aC.ok r2 rfl aC.nm aC.kp aC.bd .nil pass0 (pa_v (pv 2) pa_nil)) pa_nil)) rfl) <|
  pss_cons h2 <| pss_cons h3 <| pss_cons h4 <| pss_cons h5 <| pss_one h6, ?_⟩
 intro D o0 o2 o3 o4 o5 o6 o7 o8 o9 i ps H hT hD
 refine ⟨_, rfl, i, rfl, fun p H1 hp0 s1 pen => ?_⟩
 have T1 := hT.same s1
 refine ⟨_, rfl, p, rfl, pen, fun a g wd H2 st2 hA gG => ?_⟩
 have T2 := T1.stp pen st2
 refine ⟨_, rfl, p, rfl, st2.pen, fun b cl H3 st3 hB cO => ?_⟩
 have T3 := T2.stp st2.pen st3
 refine ⟨_, _, rfl, ?_⟩
 have hB3 := (clT_grid hB cO).1
 have hA3 : GridAt H3 a g := hA.ext (st3.ext st2.pen)
 refine k2 _ _ _ _ _ _ _ _ _ a b g (cl.map row) H3 hA3 (gd_mead gG) (good_mead gG) hB3 (gd_claims cO) (good_claims cO) fun o5' o6' o7' H4 s4 => ?_
 have T4 := T3.same s4
 have p4 := PenAt.same' st3.pen s4
 refine k3 _ p T ps _ _ _ _ _ _ _ _ _ H4 p4 T4.at' fun v H5 st5 bad => ?_
 have T5 := T4.stp p4 st5
 have hB5 : GridAt H5 b (cl.map row) := (hB3.same s4).ext (st5.ext p4)
 refine k4 _ p T b ps cl _ _ _ _ _ _ _ _ H5 st5.pen T5.at' hB5 cO.l1 cO.l12 fun v2 H6 st6 bad2 => ?_
 have T6 := T5.stp st5.pen st6
 refine k5 _ p ps _ _ _ _ _ _ _ _ _ v H6 T6 (bad.kept (Kept.stp st6)) fun ps7 H7 H8 g7 s8 T8 => ?_
 refine k6 _ p ps7 _ _ _ _ _ _ _ _ _ v2 H8 T8 (bad2.kept ((Kept.grow g7).trans (Kept.same s8))) fun ps9 H9 H10 g9 s10 T10 => ?_
 refine hD _ _ _ _ _ _ _ _ ps9 H10 (fun x u hx hu => ?_) T10
 have hxp : x ≠ p := ne_of_none hu hp0
 exact s10 _ _ (g9 _ _ hx (s8 _ _ (g7 _ _ hx (st6.keep _ _ hxp (st5.keep _ _ hxp (s4 _ _ (st3.keep _ _ hxp (st2.keep _ _ hxp (s1 _ _ hu)))))))))
end
section
variable {P : Program} {w : World} {K : PySem.W.Frag} {mg : Str → Option Value} {base : Heap}
theorem ok_law {f c T cE cM cC cN cT : Addr} {fd : FuncData} (F : Fun K "law" "law" sLaw f fd) (hc : fd.code = .ref c) (TX : Txt mg) (C : PySem.W.CodeHd base c T) (B : BMain mg base) (L : Calls P w K mg base cE cM cC cN cT) : FnOk P w K mg base CX0 9 f fd ["_law_script"] (spLaw K T) := by
 refine F.okC scLaw hc (fun vs H Q E h => ?_) (fun A outer s H vs Q E hr h => ?_)
 ·obtain ⟨a, ns, rfl, _⟩ := h; rfl
 ·obtain ⟨a, ns, rfl, hS, hT, hlen, q⟩ := h
  have nd := scLaw.nd
  have r1 : Room 1 _ := hr.mono (by decide)
  obtain ⟨_, _, aC⟩ := L.cell
  obtain ⟨tb, hb, rb⟩ := law_0 (P := P) (w := w) (K := K) (mg := mg) (base := base) (f := f) (c := c) (T := T) (A := A) (outer := outer) (s := s) (H0 := H) (E := E) TX hr C B L
  refine ⟨_, pss_cons (ps_for PassesOwn.never rfl (pi_list (pe_op op_cat (pe_lst (pa_k (pe_call aC.ok r1 rfl aC.nm aC.kp aC.bd .nil pass0 (pa_v (pv 0) (pa_c pe_int pa_nil))) pa_nil)) (pe_slice sl_list (pv 0) (po_some pe_int) (po_some pe_int)))) (pg_name (i := 1) nd rfl (Or.inl rfl)) hb) <|
   pss_one (ps_ret pe_bl), ?_⟩
  refine ⟨_, rfl, a, ns, 0, rfl, hS, by decide, fun c0 => ?_⟩
  refine ⟨by show 1 ≤ sizeLine; decide, fun l0 hl0 => ?_⟩
  have s0 := same_upd (o := .lst [.int c0]) hl0
  refine ⟨_, rfl, _, rfl, _, rfl, a, _, rfl, s0.seq hS, fun l1 hl1 => ?_⟩
  have s1 := same_upd (o := .lst (cutV (ns.map V.int) (some 1) (some 4))) hl1
  have hcl := cutV_length (ns.map V.int) (some 1) (some 4)
  rw [List.length_map] at hcl
  refine ⟨l0, l1, _, _, rfl, rfl, s1 _ _ upd_same, upd_same, by rw [sizeLine_eq]; show 1 + _ ≤ _; omega, fun lc hlc => ?_⟩
  have s2 := same_upd (o := .lst ([.int c0] ++ cutV (ns.map V.int) (some 1) (some 4))) hlc
  have hTc := ((s0.trans s1).trans s2) _ _ hT
  have hlT : lc ≠ T := fun z => by
   have := (s0.trans s1) _ _ hT
   rw [← z, hlc] at this; cases this
  refine ⟨lc, rfl, ⟨_, SqL.of upd_same⟩, ?_⟩
  refine for_list (K := K) (a := lc) (xs := [.int c0] ++ cutV (ns.map V.int) (some 1) (some 4)) (fun i σ H' => (∃ o1 o2 o3 o4 o5 o6 o7 o8 o9, σ = [some (.ref a), o1, o2, o3, o4, o5, o6, o7, o8, o9]) ∧ H' lc = some (.lst ([.int c0] ++ cutV (ns.map V.int) (some 1) (some 4))) ∧ ∃ ps, TabI H' T ps qL posL)
   ⟨⟨_, _, _, _, _, _, _, _, _, rfl⟩, upd_same, #[], ⟨hTc, True.intro, fun pos _ => .inl rfl⟩⟩ (fun i σ H' _ h => SqL.of h.2.1) ?_ ?_
  ·rintro i y σ H' hi ⟨⟨o1, o2, o3, o4, o5, o6, o7, o8, o9, rfl⟩, hl, ps, hTI⟩
   obtain ⟨c, rfl⟩ : ∃ c, y = V.int c := by
    rcases List.mem_append.mp (List.mem_of_getElem? hi) with z | z
    ·exact ⟨c0, List.mem_singleton.mp z⟩
    ·obtain ⟨c, _, e⟩ := List.mem_map.mp (cutV_mem z)
     exact ⟨c, e.symm⟩
   exact rb _ (some (.ref a)) o2 o3 o4 o5 o6 o7 o8 o9 c ps H' hTI fun o2 o3 o4 o5 o6 o7 o8 o9 ps' H2 kp T2 => ⟨⟨_, _, _, _, _, _, _, _, _, rfl⟩, kp _ _ hlT hl, ps', T2⟩
  ·rintro σ H' _
   exact q H'
end
end M54
namespace M54
open PySem L2 PyProof.Rows
theorem exm_of {K : PySem.W.Frag} {cP cE : Addr} (h1 : PySem.W.subIn K (.ref cE) (.type "BaseException") = some true) (h2 : PySem.W.kitOne K (.ref cP) (.ref cE) = some true) (h3 : (Value.ref cP == Value.ref cE) = false) : PySem.W.exmOne K (.ref cP) (.ref cE) = some true := by
 unfold PySem.W.kitOne at h2
 rw [if_neg (by rw [h3]; decide)] at h2
 unfold PySem.W.exmOne
 rw [h1, if_pos (by decide)]
 exact h2
theorem kit_self {K : PySem.W.Frag} {c : Addr} : PySem.W.kitOne K (.ref c) (.ref c) = some true := by unfold PySem.W.kitOne; rw [if_pos (by simp)]
theorem all_mk {l : PySem.W.OpenLaw} {w : World} {K : PySem.W.Frag} {h : Heap} {mg : Str → Option Value} {fa cE cM cC cN cT cL T : Addr} {f0 f1 f2 f3 f4 f5 f6 f7 f8 f9 f10 f11 f12 f13 f14 f15 f16 f17 f18 f19 f20 f21 f22 f23 f24 f25 f26 f27 f28 f29 : Addr} {od0 an0 od1 an1 od2 an2 od3 an3 od4 an4 od5 an5 od6 an6 od7 an7 od8 an8 od9 an9 od10 an10 od11 an11 od12 an12 od13 an13 od14 an14 od15 an15 od16 an16 od17 an17 od18 an18 od19 an19 od20 an20 od21 an21 od22 an22 od23 an23 od24 an24 od25 an25 od26 an26 od27 an27 od28 an28 od29 an29 : Option Addr} {sl0 sl1 sl2 sl3 sl4 sl5 sl6 sl7 sl8 sl9 sl10 sl11 sl12 sl13 sl14 sl15 sl16 sl17 sl18 sl19 sl20 sl21 sl22 sl23 sl24 sl25 sl26 sl27 sl28 sl29 : Array (Option Value)} {oc0 kV0 dc0 pm0 ct0 oc1 kV1 dc1 pm1 ct1 oc2 kV2 dc2 pm2 ct2 oc3 kV3 dc3 pm3 ct3 oc4 kV4 dc4 pm4 ct4 oc5 kV5 dc5 pm5 ct5 oc6 kV6 dc6 pm6 ct6 oc7 kV7 dc7 pm7 ct7 oc8 kV8 dc8 pm8 ct8 oc9 kV9 dc9 pm9 ct9 oc10 kV10 dc10 pm10 ct10 oc11 kV11 dc11 pm11 ct11 oc12 kV12 dc12 pm12 ct12 oc13 kV13 dc13 pm13 ct13 oc14 kV14 dc14 pm14 ct14 oc15 kV15 dc15 pm15 ct15 oc16 kV16 dc16 pm16 ct16 oc17 kV17 dc17 pm17 ct17 oc18 kV18 dc18 pm18 ct18 oc19 kV19 dc19 pm19 ct19 oc20 kV20 dc20 pm20 ct20 oc21 kV21 dc21 pm21 ct21 oc22 kV22 dc22 pm22 ct22 oc23 kV23 dc23 pm23 ct23 oc24 kV24 dc24 pm24 ct24 oc25 kV25 dc25 pm25 ct25 oc26 kV26 dc26 pm26 ct26 oc27 kV27 dc27 pm27 ct27 oc28 kV28 dc28 pm28 ct28 oc29 kV29 dc29 pm29 ct29 cd0 cd1 cd2 cd3 cd4 cd5 cd6 cd7 cd8 cd9 cd10 cd11 cd12 cd13 cd14 cd15 cd16 cd17 cd18 cd19 cd20 cd21 cd22 cd23 cd24 cd25 cd26 cd27 cd28 : Value} {t0 t1 t2 t3 t4 t5 t6 t7 t8 t9 t10 : Tok} (X : K.In h) (G : h.Ns mainGlobals mg) (hfa : mg "law" = some (.ref fa))
  (a0 : PySem.W.nsIn K mainGlobals "is_number" = some (some (.ref f0)))
  (l0 : K.lookup f0 = some ⟨oc0, od0, .func (PySem.W.fnOf "is_number" "is_number" (defArgs sNumber) (defBody sNumber) (defScope sNumber) .none kV0 dc0 pm0 an0 cd0 ct0), sl0⟩)
  (c0 : PySem.W.codeIn K cd0 "is_number" = true)
  (k0 : PySem.W.keepIn K (.ref f0) = true)
  (a1 : PySem.W.nsIn K mainGlobals "is_number_within" = some (some (.ref f1)))
  (l1 : K.lookup f1 = some ⟨oc1, od1, .func (PySem.W.fnOf "is_number_within" "is_number_within" (defArgs sWithin) (defBody sWithin) (defScope sWithin) .none kV1 dc1 pm1 an1 cd1 ct1), sl1⟩)
  (c1 : PySem.W.codeIn K cd1 "is_number_within" = true)
  (k1 : PySem.W.keepIn K (.ref f1) = true)
  (a2 : PySem.W.nsIn K mainGlobals "is_tuple_within" = some (some (.ref f2)))
  (l2 : K.lookup f2 = some ⟨oc2, od2, .func (PySem.W.fnOf "is_tuple_within" "is_tuple_within" (defArgs sTuple) (defBody sTuple) (defScope sTuple) .none kV2 dc2 pm2 an2 cd2 ct2), sl2⟩)
  (c2 : PySem.W.codeIn K cd2 "is_tuple_within" = true)
  (k2 : PySem.W.keepIn K (.ref f2) = true)
  (a3 : PySem.W.nsIn K mainGlobals "is_rising" = some (some (.ref f3)))
  (l3 : K.lookup f3 = some ⟨oc3, od3, .func (PySem.W.fnOf "is_rising" "is_rising" (defArgs sRising) (defBody sRising) (defScope sRising) .none kV3 dc3 pm3 an3 cd3 ct3), sl3⟩)
  (c3 : PySem.W.codeIn K cd3 "is_rising" = true)
  (k3 : PySem.W.keepIn K (.ref f3) = true)
  (a4 : PySem.W.nsIn K mainGlobals "is_claim" = some (some (.ref f4)))
  (l4 : K.lookup f4 = some ⟨oc4, od4, .func (PySem.W.fnOf "is_claim" "is_claim" (defArgs sClaim) (defBody sClaim) (defScope sClaim) .none kV4 dc4 pm4 an4 cd4 ct4), sl4⟩)
  (c4 : PySem.W.codeIn K cd4 "is_claim" = true)
  (k4 : PySem.W.keepIn K (.ref f4) = true)
  (a5 : PySem.W.nsIn K mainGlobals "are_claims" = some (some (.ref f5)))
  (l5 : K.lookup f5 = some ⟨oc5, od5, .func (PySem.W.fnOf "are_claims" "are_claims" (defArgs sClaims) (defBody sClaims) (defScope sClaims) .none kV5 dc5 pm5 an5 cd5 ct5), sl5⟩)
  (c5 : PySem.W.codeIn K cd5 "are_claims" = true)
  (k5 : PySem.W.keepIn K (.ref f5) = true)
  (a6 : PySem.W.nsIn K mainGlobals "check_claims" = some (some (.ref f6)))
  (l6 : K.lookup f6 = some ⟨oc6, od6, .func (PySem.W.fnOf "check_claims" "check_claims" (defArgs sChkClaims) (defBody sChkClaims) (defScope sChkClaims) .none kV6 dc6 pm6 an6 cd6 ct6), sl6⟩)
  (c6 : PySem.W.codeIn K cd6 "check_claims" = true)
  (k6 : PySem.W.keepIn K (.ref f6) = true)
  (a7 : PySem.W.nsIn K mainGlobals "is_row" = some (some (.ref f7)))
  (l7 : K.lookup f7 = some ⟨oc7, od7, .func (PySem.W.fnOf "is_row" "is_row" (defArgs sRow) (defBody sRow) (defScope sRow) .none kV7 dc7 pm7 an7 cd7 ct7), sl7⟩)
  (c7 : PySem.W.codeIn K cd7 "is_row" = true)
  (k7 : PySem.W.keepIn K (.ref f7) = true)
  (a8 : PySem.W.nsIn K mainGlobals "is_mead" = some (some (.ref f8)))
  (l8 : K.lookup f8 = some ⟨oc8, od8, .func (PySem.W.fnOf "is_mead" "is_mead" (defArgs sMead) (defBody sMead) (defScope sMead) .none kV8 dc8 pm8 an8 cd8 ct8), sl8⟩)
  (c8 : PySem.W.codeIn K cd8 "is_mead" = true)
  (k8 : PySem.W.keepIn K (.ref f8) = true)
  (a9 : PySem.W.nsIn K mainGlobals "check_mead" = some (some (.ref f9)))
  (l9 : K.lookup f9 = some ⟨oc9, od9, .func (PySem.W.fnOf "check_mead" "check_mead" (defArgs sChkMead) (defBody sChkMead) (defScope sChkMead) .none kV9 dc9 pm9 an9 cd9 ct9), sl9⟩)
  (c9 : PySem.W.codeIn K cd9 "check_mead" = true)
  (k9 : PySem.W.keepIn K (.ref f9) = true)
  (a10 : PySem.W.nsIn K mainGlobals "places_of_cells" = some (some (.ref f10)))
  (l10 : K.lookup f10 = some ⟨oc10, od10, .func (PySem.W.fnOf "places_of_cells" "places_of_cells" (defArgs sPlaces) (defBody sPlaces) (defScope sPlaces) .none kV10 dc10 pm10 an10 cd10 ct10), sl10⟩)
  (c10 : PySem.W.codeIn K cd10 "places_of_cells" = true)
  (k10 : PySem.W.keepIn K (.ref f10) = true)
  (a11 : PySem.W.nsIn K mainGlobals "is_written_number" = some (some (.ref f11)))
  (l11 : K.lookup f11 = some ⟨oc11, od11, .func (PySem.W.fnOf "is_written_number" "is_written_number" (defArgs sWritten) (defBody sWritten) (defScope sWritten) .none kV11 dc11 pm11 an11 cd11 ct11), sl11⟩)
  (c11 : PySem.W.codeIn K cd11 "is_written_number" = true)
  (k11 : PySem.W.keepIn K (.ref f11) = true)
  (a12 : PySem.W.nsIn K mainGlobals "read_number" = some (some (.ref f12)))
  (l12 : K.lookup f12 = some ⟨oc12, od12, .func (PySem.W.fnOf "read_number" "read_number" (defArgs sReadNum) (defBody sReadNum) (defScope sReadNum) .none kV12 dc12 pm12 an12 cd12 ct12), sl12⟩)
  (c12 : PySem.W.codeIn K cd12 "read_number" = true)
  (k12 : PySem.W.keepIn K (.ref f12) = true)
  (a13 : PySem.W.nsIn K mainGlobals "rows_read" = some (some (.ref f13)))
  (l13 : K.lookup f13 = some ⟨oc13, od13, .func (PySem.W.fnOf "rows_read" "rows_read" (defArgs sRowsRead) (defBody sRowsRead) (defScope sRowsRead) .none kV13 dc13 pm13 an13 cd13 ct13), sl13⟩)
  (c13 : PySem.W.codeIn K cd13 "rows_read" = true)
  (k13 : PySem.W.keepIn K (.ref f13) = true)
  (a14 : PySem.W.nsIn K mainGlobals "shown_numbers" = some (some (.ref f14)))
  (l14 : K.lookup f14 = some ⟨oc14, od14, .func (PySem.W.fnOf "shown_numbers" "shown_numbers" (defArgs sShNums) (defBody sShNums) (defScope sShNums) .none kV14 dc14 pm14 an14 cd14 ct14), sl14⟩)
  (c14 : PySem.W.codeIn K cd14 "shown_numbers" = true)
  (k14 : PySem.W.keepIn K (.ref f14) = true)
  (a15 : PySem.W.nsIn K mainGlobals "shown_mead" = some (some (.ref f15)))
  (l15 : K.lookup f15 = some ⟨oc15, od15, .func (PySem.W.fnOf "shown_mead" "shown_mead" (defArgs sShMead) (defBody sShMead) (defScope sShMead) .none kV15 dc15 pm15 an15 cd15 ct15), sl15⟩)
  (c15 : PySem.W.codeIn K cd15 "shown_mead" = true)
  (k15 : PySem.W.keepIn K (.ref f15) = true)
  (a16 : PySem.W.nsIn K mainGlobals "shown_claims" = some (some (.ref f16)))
  (l16 : K.lookup f16 = some ⟨oc16, od16, .func (PySem.W.fnOf "shown_claims" "shown_claims" (defArgs sShClaims) (defBody sShClaims) (defScope sShClaims) .none kV16 dc16 pm16 an16 cd16 ct16), sl16⟩)
  (c16 : PySem.W.codeIn K cd16 "shown_claims" = true)
  (k16 : PySem.W.keepIn K (.ref f16) = true)
  (a17 : PySem.W.nsIn K mainGlobals "read_mead" = some (some (.ref f17)))
  (l17 : K.lookup f17 = some ⟨oc17, od17, .func (PySem.W.fnOf "read_mead" "read_mead" (defArgs sReadMead) (defBody sReadMead) (defScope sReadMead) .none kV17 dc17 pm17 an17 cd17 ct17), sl17⟩)
  (c17 : PySem.W.codeIn K cd17 "read_mead" = true)
  (k17 : PySem.W.keepIn K (.ref f17) = true)
  (a18 : PySem.W.nsIn K mainGlobals "read_claims" = some (some (.ref f18)))
  (l18 : K.lookup f18 = some ⟨oc18, od18, .func (PySem.W.fnOf "read_claims" "read_claims" (defArgs sReadClaims) (defBody sReadClaims) (defScope sReadClaims) .none kV18 dc18 pm18 an18 cd18 ct18), sl18⟩)
  (c18 : PySem.W.codeIn K cd18 "read_claims" = true)
  (k18 : PySem.W.keepIn K (.ref f18) = true)
  (a19 : PySem.W.nsIn K mainGlobals "_law_cell" = some (some (.ref f19)))
  (l19 : K.lookup f19 = some ⟨oc19, od19, .func (PySem.W.fnOf "_law_cell" "_law_cell" (defArgs sCell) (defBody sCell) (defScope sCell) .none kV19 dc19 pm19 an19 cd19 ct19), sl19⟩)
  (c19 : PySem.W.codeIn K cd19 "_law_cell" = true)
  (k19 : PySem.W.keepIn K (.ref f19) = true)
  (a20 : PySem.W.nsIn K mainGlobals "_law_pen" = some (some (.ref f20)))
  (l20 : K.lookup f20 = some ⟨oc20, od20, .func (PySem.W.fnOf "_law_pen" "_law_pen" (defArgs sPen) (defBody sPen) (defScope sPen) .none kV20 dc20 pm20 an20 cd20 ct20), sl20⟩)
  (c20 : PySem.W.codeIn K cd20 "_law_pen" = true)
  (k20 : PySem.W.keepIn K (.ref f20) = true)
  (a21 : PySem.W.nsIn K mainGlobals "_law_draw" = some (some (.ref f21)))
  (l21 : K.lookup f21 = some ⟨oc21, od21, .func (PySem.W.fnOf "_law_draw" "_law_draw" (defArgs sDraw) (defBody sDraw) (defScope sDraw) .none kV21 dc21 pm21 an21 cd21 ct21), sl21⟩)
  (c21 : PySem.W.codeIn K cd21 "_law_draw" = true)
  (k21 : PySem.W.keepIn K (.ref f21) = true)
  (a22 : PySem.W.nsIn K mainGlobals "_law_same" = some (some (.ref f22)))
  (l22 : K.lookup f22 = some ⟨oc22, od22, .func (PySem.W.fnOf "_law_same" "_law_same" (defArgs sSame) (defBody sSame) (defScope sSame) .none kV22 dc22 pm22 an22 cd22 ct22), sl22⟩)
  (c22 : PySem.W.codeIn K cd22 "_law_same" = true)
  (k22 : PySem.W.keepIn K (.ref f22) = true)
  (a23 : PySem.W.nsIn K mainGlobals "_law_mead" = some (some (.ref f23)))
  (l23 : K.lookup f23 = some ⟨oc23, od23, .func (PySem.W.fnOf "_law_mead" "_law_mead" (defArgs sMeadL) (defBody sMeadL) (defScope sMeadL) .none kV23 dc23 pm23 an23 cd23 ct23), sl23⟩)
  (c23 : PySem.W.codeIn K cd23 "_law_mead" = true)
  (k23 : PySem.W.keepIn K (.ref f23) = true)
  (a24 : PySem.W.nsIn K mainGlobals "_law_claims" = some (some (.ref f24)))
  (l24 : K.lookup f24 = some ⟨oc24, od24, .func (PySem.W.fnOf "_law_claims" "_law_claims" (defArgs sClaimsL) (defBody sClaimsL) (defScope sClaimsL) .none kV24 dc24 pm24 an24 cd24 ct24), sl24⟩)
  (c24 : PySem.W.codeIn K cd24 "_law_claims" = true)
  (k24 : PySem.W.keepIn K (.ref f24) = true)
  (a25 : PySem.W.nsIn K mainGlobals "_law_listed" = some (some (.ref f25)))
  (l25 : K.lookup f25 = some ⟨oc25, od25, .func (PySem.W.fnOf "_law_listed" "_law_listed" (defArgs sListed) (defBody sListed) (defScope sListed) .none kV25 dc25 pm25 an25 cd25 ct25), sl25⟩)
  (c25 : PySem.W.codeIn K cd25 "_law_listed" = true)
  (k25 : PySem.W.keepIn K (.ref f25) = true)
  (a26 : PySem.W.nsIn K mainGlobals "_law_mead_text" = some (some (.ref f26)))
  (l26 : K.lookup f26 = some ⟨oc26, od26, .func (PySem.W.fnOf "_law_mead_text" "_law_mead_text" (defArgs sMeadText) (defBody sMeadText) (defScope sMeadText) .none kV26 dc26 pm26 an26 cd26 ct26), sl26⟩)
  (c26 : PySem.W.codeIn K cd26 "_law_mead_text" = true)
  (k26 : PySem.W.keepIn K (.ref f26) = true)
  (a27 : PySem.W.nsIn K mainGlobals "_law_claims_text" = some (some (.ref f27)))
  (l27 : K.lookup f27 = some ⟨oc27, od27, .func (PySem.W.fnOf "_law_claims_text" "_law_claims_text" (defArgs sClaimsText) (defBody sClaimsText) (defScope sClaimsText) .none kV27 dc27 pm27 an27 cd27 ct27), sl27⟩)
  (c27 : PySem.W.codeIn K cd27 "_law_claims_text" = true)
  (k27 : PySem.W.keepIn K (.ref f27) = true)
  (a28 : PySem.W.nsIn K mainGlobals "_law_told" = some (some (.ref f28)))
  (l28 : K.lookup f28 = some ⟨oc28, od28, .func (PySem.W.fnOf "_law_told" "_law_told" (defArgs sTold) (defBody sTold) (defScope sTold) .none kV28 dc28 pm28 an28 cd28 ct28), sl28⟩)
  (c28 : PySem.W.codeIn K cd28 "_law_told" = true)
  (k28 : PySem.W.keepIn K (.ref f28) = true)
  (a29 : PySem.W.nsIn K mainGlobals "law" = some (some (.ref f29)))
  (l29 : K.lookup f29 = some ⟨oc29, od29, .func (PySem.W.fnOf "law" "law" (defArgs sLaw) (defBody sLaw) (defScope sLaw) .none kV29 dc29 pm29 an29 (.ref cL) ct29), sl29⟩)
  (c29 : PySem.W.codeIn K (.ref cL) "law" = true)
  (k29 : PySem.W.keepIn K (.ref f29) = true)
  (v0 : PySem.W.nsIn K mainGlobals "MOST_SORTS" = some (some (.int 6 t0)))
  (v1 : PySem.W.nsIn K mainGlobals "MOST_HOLDERS" = some (some (.int 4 t1)))
  (v2 : PySem.W.nsIn K mainGlobals "MOST_RIGHTS" = some (some (.int 20 t2)))
  (v3 : PySem.W.nsIn K mainGlobals "MOST_CLAIMS" = some (some (.int 12 t3)))
  (v4 : PySem.W.nsIn K mainGlobals "MOST_ROWS" = some (some (.int 4 t4)))
  (v5 : PySem.W.nsIn K mainGlobals "MOST_COLUMNS" = some (some (.int 6 t5)))
  (v6 : PySem.W.nsIn K mainGlobals "MOST_CELLS" = some (some (.int 10 t6)))
  (v7 : PySem.W.nsIn K mainGlobals "MOST_WORTH" = some (some (.int 99 t7)))
  (v8 : PySem.W.nsIn K mainGlobals "WATER" = some (some (.int (-2) t8)))
  (v9 : PySem.W.nsIn K mainGlobals "FIGURES" = some (some (.str "0123456789" t9)))
  (v10 : PySem.W.nsIn K mainGlobals "MOST_FIGURES" = some (some (.int 5 t10)))
  (z0 : PySem.W.nsIn K mainGlobals "isinstance" = some none)
  (z1 : PySem.W.nsIn K mainGlobals "int" = some none)
  (z2 : PySem.W.nsIn K mainGlobals "bool" = some none)
  (z3 : PySem.W.nsIn K mainGlobals "tuple" = some none)
  (z4 : PySem.W.nsIn K mainGlobals "len" = some none)
  (z5 : PySem.W.nsIn K mainGlobals "all" = some none)
  (z6 : PySem.W.nsIn K mainGlobals "zip" = some none)
  (z7 : PySem.W.nsIn K mainGlobals "range" = some none)
  (z8 : PySem.W.nsIn K mainGlobals "list" = some none)
  (z9 : PySem.W.nsIn K mainGlobals "sorted" = some none)
  (z10 : PySem.W.nsIn K mainGlobals "str" = some none)
  (z11 : PySem.W.nsIn K mainGlobals "enumerate" = some none)
  (z12 : PySem.W.nsIn K mainGlobals "ValueError" = some none)
  (e0 : PySem.W.nsIn K mainGlobals "MeadError" = some (some (.ref cE)))
  (e1 : PySem.W.nsIn K mainGlobals "NoText" = some (some (.ref cT)))
  (e2 : PySem.W.nsIn K mainGlobals "NoMead" = some (some (.ref cM)))
  (e3 : PySem.W.nsIn K mainGlobals "NoClaims" = some (some (.ref cC)))
  (e4 : PySem.W.nsIn K mainGlobals "NoClaim" = some (some (.ref cN)))
  (x1 : PySem.W.subIn K (.ref cE) (.type "BaseException") = some true)
  (xT : PySem.W.excIn K cT [.type "ValueError", .type "Exception", .type "BaseException", .type "object"] "ValueError.__new__" = true)
  (x0M : PySem.W.excIn K cM [.type "ValueError", .type "Exception", .type "BaseException", .type "object"] "ValueError.__new__" = true)
  (x2M : PySem.W.kitOne K (.ref cM) (.ref cC) = some false)
  (x3M : PySem.W.kitOne K (.ref cM) (.ref cN) = some false)
  (x4M : PySem.W.kitOne K (.ref cM) (.ref cT) = some false)
  (x5M : PySem.W.kitOne K (.ref cM) (.type "ValueError") = some true)
  (x6M : PySem.W.kitOne K (.ref cM) (.ref cE) = some true)
  (x7M : (Value.ref cM == Value.ref cE) = false)
  (y1M : PySem.W.findIn K (.ref cM) "__class__" = some (some (.builtin "object.__class__")))
  (y2M : PySem.W.findIn K (.ref cM) "__getattribute__" = some (some (.builtin "BaseException.__getattribute__")))
  (y3M : PySem.W.findIn K (.ref cM) "__getattr__" = some none)
  (y4M : PySem.W.mroIn K cM (.type "object") = some true)
  (y5M : PySem.W.mroIn K cM (.type "BaseException") = some true)
  (x0C : PySem.W.excIn K cC [.type "ValueError", .type "Exception", .type "BaseException", .type "object"] "ValueError.__new__" = true)
  (x2C : PySem.W.kitOne K (.ref cC) (.ref cM) = some false)
  (x3C : PySem.W.kitOne K (.ref cC) (.ref cN) = some false)
  (x4C : PySem.W.kitOne K (.ref cC) (.ref cT) = some false)
  (x5C : PySem.W.kitOne K (.ref cC) (.type "ValueError") = some true)
  (x6C : PySem.W.kitOne K (.ref cC) (.ref cE) = some true)
  (x7C : (Value.ref cC == Value.ref cE) = false)
  (y1C : PySem.W.findIn K (.ref cC) "__class__" = some (some (.builtin "object.__class__")))
  (y2C : PySem.W.findIn K (.ref cC) "__getattribute__" = some (some (.builtin "BaseException.__getattribute__")))
  (y3C : PySem.W.findIn K (.ref cC) "__getattr__" = some none)
  (y4C : PySem.W.mroIn K cC (.type "object") = some true)
  (y5C : PySem.W.mroIn K cC (.type "BaseException") = some true)
  (y6 : PySem.W.specialIn K (.builtin "object.__class__") "__get__" = some (some (.builtin "getset_descriptor.__get__")))
  (y7 : PySem.W.takesIn K (.builtin "object.__class__") = some true) :
  ∃ fd : FuncData, (∀ (s : Shared) (v : Value), BindsTo s fd ⟨[v], []⟩ [("_law_script", v)]) ∧ ∀ base : Heap, K.In base → base.Ns mainGlobals mg → PySem.W.CodeHd base cL T → BMain mg base → FnOk l.prog w K mg base CX0 9 fa fd ["_law_script"] (spLaw K T) := by
 have e := hfa.symm.trans (PySem.W.mg_of X G a29)
 cases e
 have T' : Txt mg := ⟨PySem.W.mg_none_of X G z0, PySem.W.mg_none_of X G z1, PySem.W.mg_none_of X G z2, PySem.W.mg_none_of X G z3, PySem.W.mg_none_of X G z4, PySem.W.mg_none_of X G z5, PySem.W.mg_none_of X G z6, PySem.W.mg_none_of X G z7, PySem.W.mg_none_of X G z8, PySem.W.mg_none_of X G z9, PySem.W.mg_none_of X G z10, PySem.W.mg_none_of X G z11, ⟨_, PySem.W.mg_of X G v0⟩, ⟨_, PySem.W.mg_of X G v1⟩, ⟨_, PySem.W.mg_of X G v2⟩, ⟨_, PySem.W.mg_of X G v3⟩, ⟨_, PySem.W.mg_of X G v4⟩, ⟨_, PySem.W.mg_of X G v5⟩, ⟨_, PySem.W.mg_of X G v6⟩, ⟨_, PySem.W.mg_of X G v7⟩, ⟨_, PySem.W.mg_of X G v8⟩, ⟨_, PySem.W.mg_of X G v9⟩, ⟨_, PySem.W.mg_of X G v10⟩⟩
 have CM : ClsD K cE cM cC cN cT cM true := ⟨⟨x0M, y1M, y2M, y3M, y4M, y5M, y6, y7⟩, exm_of x1 x6M x7M, kit_self, x2M, x3M, x4M, x5M⟩
 have CC : ClsD K cE cM cC cN cT cC false := ⟨⟨x0C, y1C, y2C, y3C, y4C, y5C, y6, y7⟩, exm_of x1 x6C x7C, x2C, kit_self, x3C, x4C, x5C⟩
 have C : Cls K mg cE cM cC cN cT := ⟨PySem.W.mg_of X G e0, PySem.W.mg_of X G e2, PySem.W.mg_of X G e3, PySem.W.mg_of X G e4, PySem.W.mg_of X G e1, PySem.W.mg_none_of X G z12, ⟨xT⟩, CM, CC⟩
 have F0 := fun_mk (st := sNumber) l0 c0 k0
 have m0 := PySem.W.mg_of X G a0
 have b0 := F0.binds (ps := ["thing"]) fun _ _ _ _ _ _ us hl => match us, hl with | [_], _ => rfl
 have F1 := fun_mk (st := sWithin) l1 c1 k1
 have m1 := PySem.W.mg_of X G a1
 have b1 := F1.binds (ps := ["thing", "least", "most"]) fun _ _ _ _ _ _ us hl => match us, hl with | [_, _, _], _ => rfl
 have F2 := fun_mk (st := sTuple) l2 c2 k2
 have m2 := PySem.W.mg_of X G a2
 have b2 := F2.binds (ps := ["thing", "least", "most"]) fun _ _ _ _ _ _ us hl => match us, hl with | [_, _, _], _ => rfl
 have F3 := fun_mk (st := sRising) l3 c3 k3
 have m3 := PySem.W.mg_of X G a3
 have b3 := F3.binds (ps := ["things"]) fun _ _ _ _ _ _ us hl => match us, hl with | [_], _ => rfl
 have F4 := fun_mk (st := sClaim) l4 c4 k4
 have m4 := PySem.W.mg_of X G a4
 have b4 := F4.binds (ps := ["thing"]) fun _ _ _ _ _ _ us hl => match us, hl with | [_], _ => rfl
 have F5 := fun_mk (st := sClaims) l5 c5 k5
 have m5 := PySem.W.mg_of X G a5
 have b5 := F5.binds (ps := ["thing"]) fun _ _ _ _ _ _ us hl => match us, hl with | [_], _ => rfl
 have F6 := fun_mk (st := sChkClaims) l6 c6 k6
 have m6 := PySem.W.mg_of X G a6
 have b6 := F6.binds (ps := ["claims"]) fun _ _ _ _ _ _ us hl => match us, hl with | [_], _ => rfl
 have F7 := fun_mk (st := sRow) l7 c7 k7
 have m7 := PySem.W.mg_of X G a7
 have b7 := F7.binds (ps := ["thing"]) fun _ _ _ _ _ _ us hl => match us, hl with | [_], _ => rfl
 have F8 := fun_mk (st := sMead) l8 c8 k8
 have m8 := PySem.W.mg_of X G a8
 have b8 := F8.binds (ps := ["thing"]) fun _ _ _ _ _ _ us hl => match us, hl with | [_], _ => rfl
 have F9 := fun_mk (st := sChkMead) l9 c9 k9
 have m9 := PySem.W.mg_of X G a9
 have b9 := F9.binds (ps := ["mead"]) fun _ _ _ _ _ _ us hl => match us, hl with | [_], _ => rfl
 have F10 := fun_mk (st := sPlaces) l10 c10 k10
 have m10 := PySem.W.mg_of X G a10
 have b10 := F10.binds (ps := ["mead"]) fun _ _ _ _ _ _ us hl => match us, hl with | [_], _ => rfl
 have F11 := fun_mk (st := sWritten) l11 c11 k11
 have m11 := PySem.W.mg_of X G a11
 have b11 := F11.binds (ps := ["text"]) fun _ _ _ _ _ _ us hl => match us, hl with | [_], _ => rfl
 have F12 := fun_mk (st := sReadNum) l12 c12 k12
 have m12 := PySem.W.mg_of X G a12
 have b12 := F12.binds (ps := ["text"]) fun _ _ _ _ _ _ us hl => match us, hl with | [_], _ => rfl
 have F13 := fun_mk (st := sRowsRead) l13 c13 k13
 have m13 := PySem.W.mg_of X G a13
 have b13 := F13.binds (ps := ["text", "mark"]) fun _ _ _ _ _ _ us hl => match us, hl with | [_, _], _ => rfl
 have F14 := fun_mk (st := sShNums) l14 c14 k14
 have m14 := PySem.W.mg_of X G a14
 have b14 := F14.binds (ps := ["numbers"]) fun _ _ _ _ _ _ us hl => match us, hl with | [_], _ => rfl
 have F15 := fun_mk (st := sShMead) l15 c15 k15
 have m15 := PySem.W.mg_of X G a15
 have b15 := F15.binds (ps := ["mead"]) fun _ _ _ _ _ _ us hl => match us, hl with | [_], _ => rfl
 have F16 := fun_mk (st := sShClaims) l16 c16 k16
 have m16 := PySem.W.mg_of X G a16
 have b16 := F16.binds (ps := ["claims"]) fun _ _ _ _ _ _ us hl => match us, hl with | [_], _ => rfl
 have F17 := fun_mk (st := sReadMead) l17 c17 k17
 have m17 := PySem.W.mg_of X G a17
 have b17 := F17.binds (ps := ["text"]) fun _ _ _ _ _ _ us hl => match us, hl with | [_], _ => rfl
 have F18 := fun_mk (st := sReadClaims) l18 c18 k18
 have m18 := PySem.W.mg_of X G a18
 have b18 := F18.binds (ps := ["text"]) fun _ _ _ _ _ _ us hl => match us, hl with | [_], _ => rfl
 have F19 := fun_mk (st := sCell) l19 c19 k19
 have m19 := PySem.W.mg_of X G a19
 have b19 := F19.binds (ps := ["_law_script", "_law_k"]) fun _ _ _ _ _ _ us hl => match us, hl with | [_, _], _ => rfl
 have F20 := fun_mk (st := sPen) l20 c20 k20
 have m20 := PySem.W.mg_of X G a20
 have b20 := F20.binds (ps := ["_law_cell_here"]) fun _ _ _ _ _ _ us hl => match us, hl with | [_], _ => rfl
 have F21 := fun_mk (st := sDraw) l21 c21 k21
 have m21 := PySem.W.mg_of X G a21
 have b21 := F21.binds (ps := ["_law_pen_here", "_law_many"]) fun _ _ _ _ _ _ us hl => match us, hl with | [_, _], _ => rfl
 have F22 := fun_mk (st := sSame) l22 c22 k22
 have m22 := PySem.W.mg_of X G a22
 have b22 := F22.binds (ps := ["_law_thing", "_law_due"]) fun _ _ _ _ _ _ us hl => match us, hl with | [_, _], _ => rfl
 have F23 := fun_mk (st := sMeadL) l23 c23 k23
 have m23 := PySem.W.mg_of X G a23
 have b23 := F23.binds (ps := ["_law_pen_here", "_law_most"]) fun _ _ _ _ _ _ us hl => match us, hl with | [_, _], _ => rfl
 have F24 := fun_mk (st := sClaimsL) l24 c24 k24
 have m24 := PySem.W.mg_of X G a24
 have b24 := F24.binds (ps := ["_law_pen_here"]) fun _ _ _ _ _ _ us hl => match us, hl with | [_], _ => rfl
 have F25 := fun_mk (st := sListed) l25 c25 k25
 have m25 := PySem.W.mg_of X G a25
 have b25 := F25.binds (ps := ["_law_some"]) fun _ _ _ _ _ _ us hl => match us, hl with | [_], _ => rfl
 have F26 := fun_mk (st := sMeadText) l26 c26 k26
 have m26 := PySem.W.mg_of X G a26
 have b26 := F26.binds (ps := ["_law_mead_here"]) fun _ _ _ _ _ _ us hl => match us, hl with | [_], _ => rfl
 have F27 := fun_mk (st := sClaimsText) l27 c27 k27
 have m27 := PySem.W.mg_of X G a27
 have b27 := F27.binds (ps := ["_law_claims_here"]) fun _ _ _ _ _ _ us hl => match us, hl with | [_], _ => rfl
 have F28 := fun_mk (st := sTold) l28 c28 k28
 have m28 := PySem.W.mg_of X G a28
 have b28 := F28.binds (ps := ["_law_call"]) fun _ _ _ _ _ _ us hl => match us, hl with | [_], _ => rfl
 have F29 := fun_mk (st := sLaw) l29 c29 k29
 have m29 := PySem.W.mg_of X G a29
 refine ⟨PySem.W.fnOf "law" "law" (defArgs sLaw) (defBody sLaw) (defScope sLaw) .none kV29 dc29 pm29 an29 (.ref cL) ct29, fun s v => .of_eq rfl, fun base _ _ hCH hBM => ?_⟩
 have g0 : FnOk l.prog w K mg base CX0 1 f0 _ ["thing"] spNumber := ok_number F0 T'
 have g1 : FnOk l.prog w K mg base CX0 2 f1 _ ["thing", "least", "most"] spWithin := ok_within F1 T' F0 b0 m0
 have g2 : FnOk l.prog w K mg base CX0 1 f2 _ ["thing", "least", "most"] spTuple := ok_tuple F2 T'
 have g3 : FnOk l.prog w K mg base CX0 1 f3 _ ["things"] spRising := ok_rising F3 T'
 have g4 : FnOk l.prog w K mg base CX0 3 f4 _ ["thing"] spClaim := ok_claim F4 T' ⟨m2, k2, b2, g2⟩ ⟨m1, k1, b1, g1⟩
 have g5 : FnOk l.prog w K mg base CX0 4 f5 _ ["thing"] spClaims := ok_claims F5 T' ⟨m2, k2, b2, g2⟩ ⟨m4, k4, b4, g4⟩ ⟨m3, k3, b3, g3⟩
 have g7 : FnOk l.prog w K mg base CX0 3 f7 _ ["thing"] spRow := ok_row F7 T' b2 m2 k2 g2 b1 m1 k1 g1
 have g10 : FnOk l.prog w K mg base CX0 1 f10 _ ["mead"] spPlaces := ok_places F10 T'
 have g8 : FnOk l.prog w K mg base CX0 4 f8 _ ["thing"] spMead := ok_mead F8 T' b2 m2 k2 g2 b7 m7 k7 g7 b10 m10 k10 g10
 have g6 : FnOk l.prog w K mg base (CX1 l.prog w) 5 f6 _ ["claims"] (spChk cC clsV) := ok_chkClaims F6 ⟨m5, k5, b5, g5⟩ C.mC ⟨x0C⟩
 have g9 : FnOk l.prog w K mg base (CX1 l.prog w) 5 f9 _ ["mead"] (spChk cM goodM) := ok_chkMead F9 ⟨m8, k8, b8, g8⟩ C.mM ⟨x0M⟩
 have g11 : FnOk l.prog w K mg base CX0 1 f11 _ ["text"] spWritten := ok_written F11 T'
 have g12 : FnOk l.prog w K mg base (CX1 l.prog w) 2 f12 _ ["text"] (spReadNum cT) := ok_readNum F12 T' ⟨m11, k11, b11, g11⟩ C.mT C.eT
 have g13 : FnOk l.prog w K mg base (CX1 l.prog w) 3 f13 _ ["text", "mark"] (spRowsRead cT) := ok_rowsRead F13 T' ⟨m12, k12, b12, g12⟩ C.mT C.eT
 have g14 : FnOk l.prog w K mg base CX0 1 f14 _ ["numbers"] spListed := ok_shNums F14 T'
 have g15 : FnOk l.prog w K mg base (CX1 l.prog w) 6 f15 _ ["mead"] (spShown cM "/" goodM) := ok_shMead F15 ⟨m9, k9, b9, g9⟩ ⟨m14, k14, b14, g14⟩
 have g16 : FnOk l.prog w K mg base (CX1 l.prog w) 6 f16 _ ["claims"] (spShown cC ";" clsV) := ok_shClaims F16 ⟨m6, k6, b6, g6⟩ ⟨m14, k14, b14, g14⟩
 have g17 : FnOk l.prog w K mg base (CX1 l.prog w) 5 f17 _ ["text"] (spRead cT goodMT (gridOf "/")) := ok_readMead F17 ⟨m13, k13, b13, g13⟩ ⟨m8, k8, b8, g8⟩ C.mT C.eT
 have g18 : FnOk l.prog w K mg base (CX1 l.prog w) 5 f18 _ ["text"] (spRead cT goodCT (gridOf ";")) := ok_readClaims F18 ⟨m13, k13, b13, g13⟩ ⟨m5, k5, b5, g5⟩ C.mT C.eT
 have g19 : FnOk l.prog w K mg base CX0 1 f19 _ ["_law_script", "_law_k"] (spCell K) := ok_cell F19 T'
 have g20 : FnOk l.prog w K mg base CX0 1 f20 _ ["_law_cell_here"] spPen := ok_pen F20 T'
 have g21 : FnOk l.prog w K mg base CX0 1 f21 _ ["_law_pen_here", "_law_many"] spDraw := ok_draw F21 T'
 have g22 : FnOk l.prog w K mg base CX0 4 f22 _ ["_law_thing", "_law_due"] (spSame 3) := ok_same F22 T' m22 b22 3
 have g23 : FnOk l.prog w K mg base CX0 2 f23 _ ["_law_pen_here", "_law_most"] spMeadL := ok_meadL F23 T' b21 m21 k21 g21
 have g24 : FnOk l.prog w K mg base CX0 2 f24 _ ["_law_pen_here"] spClaimsL := ok_claimsL F24 T' ⟨m21, k21, b21, g21⟩
 have g25 : FnOk l.prog w K mg base CX0 1 f25 _ ["_law_some"] spListed := ok_listed F25 T'
 have g26 : FnOk l.prog w K mg base CX0 2 f26 _ ["_law_mead_here"] (spTextOf "/") := ok_meadText F26 ⟨m25, k25, b25, g25⟩
 have g27 : FnOk l.prog w K mg base CX0 2 f27 _ ["_law_claims_here"] (spTextOf ";") := ok_claimsText F27 ⟨m25, k25, b25, g25⟩
 have g28 : FnOkS l.prog w K mg base 8 f28 _ ["_law_call"] (spTold l.prog w K mg base cE cM cC cN cT) := ok_told F28 T' C
 exact ok_law F29 rfl T' hCH hBM ⟨C, ⟨_, _, ⟨m19, k19, b19, g19⟩⟩, ⟨_, _, ⟨m20, k20, b20, g20⟩⟩, ⟨_, _, ⟨m21, k21, b21, g21⟩⟩, ⟨_, _, ⟨m23, k23, b23, g23⟩⟩, ⟨_, _, ⟨m24, k24, b24, g24⟩⟩, ⟨_, _, ⟨m26, k26, b26, g26⟩⟩, ⟨_, _, ⟨m27, k27, b27, g27⟩⟩, ⟨_, _, ⟨m22, k22, b22, g22⟩⟩, ⟨_, _, ⟨m15, k15, b15, g15⟩⟩, ⟨_, _, ⟨m16, k16, b16, g16⟩⟩, ⟨_, _, ⟨m17, k17, b17, g17⟩⟩, ⟨_, _, ⟨m18, k18, b18, g18⟩⟩, ⟨_, _, m28, k28, b28, g28⟩⟩
theorem walk {l : PySem.W.OpenLaw} {q : Program} {loose : List Str} {XP : (Str → Option Value) → Heap → Prop} {YP : World → Heap → Prop} {d : DefRec} {K : Params → PySem.W.Frag} {c T : Addr} (hn : l.most = some 63) (hdf : d.params.defaults = [])
  (hY : ∀ (w : World) (h : Heap), YP w h → (K w.params).In h ∧ h.get? T = some (PySem.W.tabObj #[])) 
  (F : ∀ (w : World) (mg : Str → Option Value) (fa : Addr) (h : Heap), (K w.params).In h → h.Ns mainGlobals mg → mg d.name = some (.ref fa) →
   ∃ fd : FuncData, (∀ (s : Shared) (u : Value), BindsTo s fd ⟨[u], []⟩ [("_law_script", u)]) ∧ ∀ base : Heap, (K w.params).In base → base.Ns mainGlobals mg → PySem.W.CodeHd base c T → BMain mg base → FnOk l.prog w (K w.params) mg base CX0 9 fa fd ["_law_script"] (spLaw (K w.params) T))
  (hKT : ∀ w : World, (K w.params).lookup T = none) (hKC : ∀ w : World, PySem.W.codeHdIn (K w.params) c T = true) :
  PySem.W.WalkO q loose XP YP l.row.toRowW d [] (fun f vs => PySem.call f vs) :=
 L2.walk_ofT (n := 63) (k := 9) (x := "_law_script") (sp := fun w => spLaw (K w.params) T) hn (by decide) hdf ⟨rfl, by decide, by decide, rfl⟩ hY hKT hKC F (fun _ _ a ns hl hT hS => ⟨a, ns, rfl, hS, hT, hl, fun _ => rfl⟩)
end M54
open PySem PySem.W PyProof.Rows
set_option maxRecDepth 100000 in
set_option maxHeartbeats 0 in
theorem PySem.Challenge.cw_meadshares_k54_texts_holds : PySem.Challenge.rw_meadshares_k54_texts.Holds := by
 w_on; o_law; k_head; (case hw => w_witness2)
 k_fill
 refine' M54.walk (l := PySem.Challenge.rw_meadshares_k54_texts) rfl rfl (T := 250) (fun w h Y => ⟨PySem.W.km_in_of Y, PySem.W.km_tabs_of Y 250 (List.mem_cons_self)⟩) ?F ?KT ?KC
 case F =>
  intro w mg fa h KX G hmg
  refine' M54.all_mk KX G hmg ?a0 ?l0 ?c0 ?k0 ?a1 ?l1 ?c1 ?k1 ?a2 ?l2 ?c2 ?k2 ?a3 ?l3 ?c3 ?k3 ?a4 ?l4 ?c4 ?k4 ?a5 ?l5 ?c5 ?k5 ?a6 ?l6 ?c6 ?k6 ?a7 ?l7 ?c7 ?k7 ?a8 ?l8 ?c8 ?k8 ?a9 ?l9 ?c9 ?k9 ?a10 ?l10 ?c10 ?k10 ?a11 ?l11 ?c11 ?k11 ?a12 ?l12 ?c12 ?k12 ?a13 ?l13 ?c13 ?k13 ?a14 ?l14 ?c14 ?k14 ?a15 ?l15 ?c15 ?k15 ?a16 ?l16 ?c16 ?k16 ?a17 ?l17 ?c17 ?k17 ?a18 ?l18 ?c18 ?k18 ?a19 ?l19 ?c19 ?k19 ?a20 ?l20 ?c20 ?k20 ?a21 ?l21 ?c21 ?k21 ?a22 ?l22 ?c22 ?k22 ?a23 ?l23 ?c23 ?k23 ?a24 ?l24 ?c24 ?k24 ?a25 ?l25 ?c25 ?k25 ?a26 ?l26 ?c26 ?k26 ?a27 ?l27 ?c27 ?k27 ?a28 ?l28 ?c28 ?k28 ?a29 ?l29 ?c29 ?k29 ?v0 ?v1 ?v2 ?v3 ?v4 ?v5 ?v6 ?v7 ?v8 ?v9 ?v10 ?z0 ?z1 ?z2 ?z3 ?z4 ?z5 ?z6 ?z7 ?z8 ?z9 ?z10 ?z11 ?z12 ?e0 ?e1 ?e2 ?e3 ?e4 ?x1 ?xT ?x0M ?x2M ?x3M ?x4M ?x5M ?x6M ?x7M ?y1M ?y2M ?y3M ?y4M ?y5M ?x0C ?x2C ?x3C ?x4C ?x5C ?x6C ?x7C ?y1C ?y2C ?y3C ?y4C ?y5C ?y6 ?y7
  (case a0 => k_is)
  (case l0 => k_is)
  (case c0 => k_is)
  (case k0 => k_is)
  (case a1 => k_is)
  (case l1 => k_is)
  (case c1 => k_is)
  (case k1 => k_is)
  (case a2 => k_is)
  (case l2 => k_is)
  (case c2 => k_is)
  (case k2 => k_is)
  (case a3 => k_is)
  (case l3 => k_is)
  (case c3 => k_is)
  (case k3 => k_is)
  (case a4 => k_is)
  (case l4 => k_is)
  (case c4 => k_is)
  (case k4 => k_is)
  (case a5 => k_is)
  (case l5 => k_is)
  (case c5 => k_is)
  (case k5 => k_is)
  (case a6 => k_is)
  (case l6 => k_is)
  (case c6 => k_is)
  (case k6 => k_is)
  (case a7 => k_is)
  (case l7 => k_is)
  (case c7 => k_is)
  (case k7 => k_is)
  (case a8 => k_is)
  (case l8 => k_is)
  (case c8 => k_is)
  (case k8 => k_is)
  (case a9 => k_is)
  (case l9 => k_is)
  (case c9 => k_is)
  (case k9 => k_is)
  (case a10 => k_is)
  (case l10 => k_is)
  (case c10 => k_is)
  (case k10 => k_is)
  (case a11 => k_is)
  (case l11 => k_is)
  (case c11 => k_is)
  (case k11 => k_is)
  (case a12 => k_is)
  (case l12 => k_is)
  (case c12 => k_is)
  (case k12 => k_is)
  (case a13 => k_is)
  (case l13 => k_is)
  (case c13 => k_is)
  (case k13 => k_is)
  (case a14 => k_is)
  (case l14 => k_is)
  (case c14 => k_is)
  (case k14 => k_is)
  (case a15 => k_is)
  (case l15 => k_is)
  (case c15 => k_is)
  (case k15 => k_is)
  (case a16 => k_is)
  (case l16 => k_is)
  (case c16 => k_is)
  (case k16 => k_is)
  (case a17 => k_is)
  (case l17 => k_is)
  (case c17 => k_is)
  (case k17 => k_is)
  (case a18 => k_is)
  (case l18 => k_is)
  (case c18 => k_is)
  (case k18 => k_is)
  (case a19 => k_is)
  (case l19 => k_is)
  (case c19 => k_is)
  (case k19 => k_is)
  (case a20 => k_is)
  (case l20 => k_is)
  (case c20 => k_is)
  (case k20 => k_is)
  (case a21 => k_is)
  (case l21 => k_is)
  (case c21 => k_is)
  (case k21 => k_is)
  (case a22 => k_is)
  (case l22 => k_is)
  (case c22 => k_is)
  (case k22 => k_is)
  (case a23 => k_is)
  (case l23 => k_is)
  (case c23 => k_is)
  (case k23 => k_is)
  (case a24 => k_is)
  (case l24 => k_is)
  (case c24 => k_is)
  (case k24 => k_is)
  (case a25 => k_is)
  (case l25 => k_is)
  (case c25 => k_is)
  (case k25 => k_is)
  (case a26 => k_is)
  (case l26 => k_is)
  (case c26 => k_is)
  (case k26 => k_is)
  (case a27 => k_is)
  (case l27 => k_is)
  (case c27 => k_is)
  (case k27 => k_is)
  (case a28 => k_is)
  (case l28 => k_is)
  (case c28 => k_is)
  (case k28 => k_is)
  (case a29 => k_is)
  (case l29 => k_is)
  (case c29 => k_is)
  (case k29 => k_is)
  (case v0 => k_is)
  (case v1 => k_is)
  (case v2 => k_is)
  (case v3 => k_is)
  (case v4 => k_is)
  (case v5 => k_is)
  (case v6 => k_is)
  (case v7 => k_is)
  (case v8 => k_is)
  (case v9 => k_is)
  (case v10 => k_is)
  (case z0 => k_is)
  (case z1 => k_is)
  (case z2 => k_is)
  (case z3 => k_is)
  (case z4 => k_is)
  (case z5 => k_is)
  (case z6 => k_is)
  (case z7 => k_is)
  (case z8 => k_is)
  (case z9 => k_is)
  (case z10 => k_is)
  (case z11 => k_is)
  (case z12 => k_is)
  (case e0 => k_is)
  (case e1 => k_is)
  (case e2 => k_is)
  (case e3 => k_is)
  (case e4 => k_is)
  (case x1 => k_is)
  (case xT => k_exc)
  (case x0M => k_exc)
  (case x2M => kit_is)
  (case x3M => kit_is)
  (case x4M => kit_is)
  (case x5M => kit_is)
  (case x6M => kit_is)
  (case x7M => first | rfl | decide)
  (case y1M => k_is)
  (case y2M => k_is)
  (case y3M => k_is)
  (case y4M => k_is)
  (case y5M => k_is)
  (case x0C => k_exc)
  (case x2C => kit_is)
  (case x3C => kit_is)
  (case x4C => kit_is)
  (case x5C => kit_is)
  (case x6C => kit_is)
  (case x7C => first | rfl | decide)
  (case y1C => k_is)
  (case y2C => k_is)
  (case y3C => k_is)
  (case y4C => k_is)
  (case y5C => k_is)
  (case y6 => k_is)
  (case y7 => k_is)
 case KT => intro w; first | rfl | kernel_rfl | k_is
 case KC => intro w; first | kernel_rfl | k_is | rfl
