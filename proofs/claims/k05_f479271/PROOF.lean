import PyProof.Rows.All
import Wide.All
import OpenK.AllK
import Wide.FinOn
import Lean
import PyProof.EqAt
import PyProof.EqKinds
import PyProof.TupleCall
import KE.LcSums
import KE.KDictOf
import KE.KTryMore
import PyProof.ZipIter
import PyProof.WalkInts
import PyProof.WalksMore
import PyProof.DictItems
import KE.KSortTup
import PyProof.ListCopy
import PyProof.Rows.SetFrom
import PyProof.CollectWalk
import PyProof.NeKinds
import KE.RegKIsAll
import PySem.Challenge.RW_meadshares_k05_whole_all_is_shared
set_option Elab.async false
set_option linter.all false
set_option maxRecDepth 100000
namespace L2
open PySem PySem.Spec PyProof.Rows
noncomputable abbrev Key := Sum Int Str
noncomputable def keyIs : Key → Value → Bool
  | .inl k, v => Value.isInt k v
  | .inr x, v => Value.isStrOf x v
noncomputable def keyH (w : World) : Key → Int
  | .inl k => hashInt k
  | .inr x => hashStr w x
theorem keyIs_shape : ∀ {k : Key} {v : Value}, keyIs k v = true → (∃ i t, k = Sum.inl i ∧ v = Value.int i t) ∨ (∃ x t, k = Sum.inr x ∧ v = Value.str x t)
  | .inl i, v, h => by
    obtain ⟨t, e⟩ := Value.isInt_shape (k := i) (v := v) h
    exact .inl ⟨i, t, rfl, e⟩
  | .inr x, v, h => by
    obtain ⟨t, e⟩ := Value.isStrOf_shape (x := x) (v := v) h
    exact .inr ⟨x, t, rfl, e⟩
theorem keyIs_int (i : Int) (t : Tok) : keyIs (.inl i) (.int i t) = true := by simp [keyIs, Value.isInt]
theorem keyIs_str (x : Str) (t : Tok) : keyIs (.inr x) (.str x t) = true := by simp [keyIs, Value.isStrOf]
theorem key_ll (a b : Int) : decide ((Sum.inl a : Key) = Sum.inl b) = (a == b) := by
  by_cases e : a = b
  · subst e; simp
  · have h : ¬ (Sum.inl a : Key) = Sum.inl b := fun q => e (Sum.inl.inj q)
    rw [decide_eq_false h]
    exact (beq_eq_false_iff_ne.mpr e).symm
theorem key_rr (a b : Str) : decide ((Sum.inr a : Key) = Sum.inr b) = decide (a = b) := by
  by_cases e : a = b
  · subst e; simp
  · have h : ¬ (Sum.inr a : Key) = Sum.inr b := fun q => e (Sum.inr.inj q)
    rw [decide_eq_false h, decide_eq_false e]
theorem key_lr (a : Int) (b : Str) : decide ((Sum.inl a : Key) = Sum.inr b) = false := decide_eq_false (fun q => nomatch q)
theorem key_rl (a : Str) (b : Int) : decide ((Sum.inr a : Key) = Sum.inl b) = false := decide_eq_false (fun q => nomatch q)
noncomputable def mixKind (prog : Program) (w : World) : PySem.KeyKind prog w Key where
  is := keyIs
  hash := keyH w
  inj := fun v a b ha hb => by
    rcases keyIs_shape ha with ⟨i, t, rfl, rfl⟩ | ⟨x, t, rfl, rfl⟩
    · rcases keyIs_shape hb with ⟨j, u, rfl, e⟩ | ⟨y, u, rfl, e⟩
      · injection e with e1 _; rw [e1]
      · exact nomatch e
    · rcases keyIs_shape hb with ⟨j, u, rfl, e⟩ | ⟨y, u, rfl, e⟩
      · exact nomatch e
      · injection e with e1 _; rw [e1]
  byValue := fun k v h => by
    rcases keyIs_shape h with ⟨i, t, rfl, rfl⟩ | ⟨x, t, rfl, rfl⟩ <;> rfl
  pyHash := fun hv h => by
    rcases keyIs_shape hv with ⟨i, t, rfl, rfl⟩ | ⟨x, t, rfl, rfl⟩
    · exact wpAny_pyHash_int h
    · exact wpAny_pyHash_str h
  eqBool := fun hu hv h => by
    rcases keyIs_shape hu with ⟨i, t, rfl, rfl⟩ | ⟨x, t, rfl, rfl⟩
    · rcases keyIs_shape hv with ⟨j, u, rfl, rfl⟩ | ⟨y, u, rfl, rfl⟩
      · rw [key_ll] at h; exact wpAny_eqBool_int h
      · rw [key_lr] at h; exact SeqAt.EqAt.int_str i t y u _ _ _ _ h
    · rcases keyIs_shape hv with ⟨j, u, rfl, rfl⟩ | ⟨y, u, rfl, rfl⟩
      · rw [key_rl] at h; exact SeqAt.EqAt.str_int x t j u _ _ _ _ h
      · rw [key_rr] at h; exact wpAny_eqBool_str h
  «strs» := fun k x t v h => by
    rcases keyIs_shape h with ⟨i, u, rfl, e⟩ | ⟨y, u, rfl, e⟩
    · exact nomatch e
    · injection e with e1 _
      subst e1
      cases v <;> rfl
theorem mixKind_int (prog : Program) (w : World) (i : Int) (t : Tok) : (mixKind prog w).is (.inl i) (.int i t) = true := keyIs_int i t
theorem mixKind_str (prog : Program) (w : World) (x : Str) (t : Tok) : (mixKind prog w).is (.inr x) (.str x t) = true := keyIs_str x t
end L2
namespace L2
open PySem PySem.Spec PyProof.Rows
inductive V where
  | non | bl (b : Bool) | int (i : Int) | str (x : Str) | byt (b : Array UInt8) | flt (b : UInt64) | ref (a : Addr) | ty (n : String)
  deriving DecidableEq
noncomputable def RelV : V → Value → Prop
  | .non, u => u = Value.none
  | .bl b, u => u = Value.bool b
  | .int i, u => ∃ t, u = Value.int i t
  | .str x, u => ∃ t, u = Value.str x t
  | .byt b, u => ∃ t, u = Value.bytes b t
  | .flt b, u => ∃ t, u = Value.float b t
  | .ref a, u => u = Value.ref a
  | .ty n, u => u = Value.type n
noncomputable abbrev Vals : List V → List Value → Prop := Paired RelV
theorem Vals.length {xs : List V} {us : List Value} (r : Vals xs us) : xs.length = us.length := Paired.length r
theorem Vals.get : ∀ {xs : List V} {us : List Value} {i : Nat} {x : V}, Vals xs us → xs[i]? = some x → ∃ u, us[i]? = some u ∧ RelV x u
  | _, _, _, _, .nil, e => by simp at e
  | _, _, 0, _, .cons r _, e => by simp at e; subst e; exact ⟨_, rfl, r⟩
  | _, _, i + 1, x, .cons _ t, e => by
    obtain ⟨u, h1, h2⟩ := Vals.get (i := i) (x := x) t (by simpa using e)
    exact ⟨u, by simpa using h1, h2⟩
theorem Vals.set {x : V} {u : Value} (r : RelV x u) : ∀ {xs : List V} {us : List Value} (i : Nat), Vals xs us → Vals (xs.set i x) (us.set i u)
  | _, _, _, .nil => .nil
  | _, _, 0, .cons _ t => .cons r t
  | _, _, i + 1, .cons q t => .cons q (Vals.set r i t)
theorem Vals.append : ∀ {xs ys : List V} {us ws : List Value}, Vals xs us → Vals ys ws → Vals (xs ++ ys) (us ++ ws)
  | _, _, _, _, .nil, s => s
  | _, _, _, _, .cons r t, s => .cons r (Vals.append t s)
theorem Vals.take : ∀ {xs : List V} {us : List Value} (n : Nat), Vals xs us → Vals (xs.take n) (us.take n)
  | _, _, 0, _ => .nil
  | _, _, _ + 1, .nil => .nil
  | _, _, n + 1, .cons r t => .cons r (Vals.take n t)
theorem Vals.drop : ∀ {xs : List V} {us : List Value} (n : Nat), Vals xs us → Vals (xs.drop n) (us.drop n)
  | _, _, 0, r => r
  | _, _, _ + 1, .nil => .nil
  | _, _, n + 1, .cons _ t => Vals.drop n t
noncomputable def RelO : Option V → Option Value → Prop
  | some v, some u => RelV v u
  | none, none => True
  | _, _ => False
noncomputable def KV {κ : Type} : List (κ × V) → List (κ × Value) → Prop := Paired fun (p : κ × V) (q : κ × Value) => p.1 = q.1 ∧ RelV p.2 q.2
noncomputable def kV : Key → V
  | .inl i => .int i
  | .inr x => .str x
inductive HO where
    | lst (xs : List V)
    | tup (xs : List V)
    | dK (kvs : List (Key × V)) | dT (kvs : List (List Key × V))
    | set (S : Int → Bool) (n : Nat)
    | ins (C dx : Addr) (fs : List (Str × V))
    | own (x : Addr)
    | xd (fs : List (Str × V))
    | met (f x : Addr)
    | rng (lo hi : Int)
    | frz (o : Obj) (u : HO)
    | tbl (ps : Array Value)
    | ext (φ : Heap → Prop)
noncomputable abbrev Hp := Addr → Option HO
noncomputable def upd (H : Hp) (a : Addr) (o : HO) : Hp := fun b => if b = a then some o else H b
theorem upd_same {H : Hp} {a : Addr} {o : HO} : upd H a o a = some o := by unfold upd; rw [if_pos rfl]
theorem upd_ne {H : Hp} {a b : Addr} {o : HO} (h : b ≠ a) : upd H a o b = H b := by unfold upd; rw [if_neg h]
theorem ne_of {H : Hp} {a b : Addr} {o u : HO} (h : H a = some o) (h' : H b = some u) (d : o ≠ u) : a ≠ b := by
  intro e; subst e; rw [h] at h'; exact d (Option.some.inj h')
theorem ne_of_none {H : Hp} {a b : Addr} {o : HO} (h : H a = some o) (h' : H b = none) : a ≠ b := by
  intro e; subst e; rw [h] at h'; cases h'
section
variable (P : Program) (w : World)
noncomputable def ObjOk (H : Hp) (h : Heap) (a : Addr) : HO → Prop
  | .lst xs => xs.length ≤ sizeLine ∧ ∃ (its : List Value) (n : Nat), Vals xs its ∧ h.get? a = some { cls := .type "list", data := .seq its.toArray n }
  | .tup xs => xs.length ≤ sizeLine ∧ ∃ its : List Value, Vals xs its ∧ IsTup h a its.toArray
  | .dK kvs => kvs.length ≤ sizeLine ∧ (a == sysModules) = false ∧ ∃ vs, KV kvs vs ∧ h.DictOf (mixKind P w) a vs
  | .dT kvs => kvs.length ≤ sizeLine ∧ (a == sysModules) = false ∧ ∃ xs : List (List Key × Addr × Value),
      Paired (fun (p : List Key × V) (q : List Key × Addr × Value) => p.1 = q.1 ∧ H q.2.1 = some (.tup (p.1.map kV)) ∧ RelV p.2 q.2.2) kvs xs ∧
      ∃ o es ep, h.get? a = some o ∧ o.ExactDict ∧ o.data = .dict es ep ∧ es.toList = xs.map (entryOfKey (tupleKind (mixKind P w))) ∧ (xs.map (·.1)).Nodup
  | .set S n => h.SetOf (intKind P w) a S n
  | .ins C dx fs => H dx = some (.own a) ∧ fs.length ≤ 1000 ∧ dx ≠ a ∧ h.get? a = some (PySem.W.instObj C dx) ∧
      ∃ mA, h.Ns1 dx mA ∧ (∀ f, RelO (fs.lookup f) (mA f)) ∧ PySem.Within mA (fs.map (·.1))
  | .own _ => ∃ o, h.get? a = some o
  | .xd fs => ∃ mA, h.Ns1 a mA ∧ ∀ f, RelO (fs.lookup f) (mA f)
  | .rng lo hi => ∃ t u v, h.get? a = some { cls := .type "range", data := .fields #[.int lo t, .int hi u, .int 1 v] }
  | .frz o u => h.get? a = some o ∧ ObjOk H h a u
  | .tbl ps => h.get? a = some { cls := .none, data := .fields ps }
  | .met f x => h.get? a = some (PySem.W.methodObj (.ref f) (.ref x))
  | .ext φ => φ h ∧ (∃ o, h.get? a = some o) ∧ ∀ h1 h2 : Heap, φ h1 → (∀ o, h1.get? a = some o → h2.get? a = some o) → φ h2
noncomputable def HOk (H : Hp) (h : Heap) : Prop := ∀ a o, H a = some o → ObjOk P w H h a o
end
section
variable {P : Program} {w : World} {H H' : Hp} {h h' : Heap} {a : Addr} {o : HO}
theorem ObjOk.lt (x : ObjOk P w H h a o) : a < h.objs.size := by
  cases o with
  | lst xs => obtain ⟨_, _, _, _, e⟩ := x; exact Heap.lt_size e
  | tup xs => obtain ⟨_, _, _, p⟩ := x; exact p.lt
  | dK kvs => obtain ⟨_, _, _, _, o, _, _, e, _⟩ := x; exact Heap.lt_size e
  | dT kvs => obtain ⟨_, _, _, _, o, _, _, e, _⟩ := x; exact Heap.lt_size e
  | set S n => obtain ⟨o, _, _, _, e, _⟩ := x; exact Heap.lt_size e
  | ins C dx fs => obtain ⟨_, _, _, e, _⟩ := x; exact Heap.lt_size e
  | own y => obtain ⟨_, e⟩ := x; exact Heap.lt_size e
  | xd fs => obtain ⟨_, ⟨_, _, _, e, _⟩, _⟩ := x; exact Heap.lt_size e
  | rng lo hi => obtain ⟨_, _, _, e⟩ := x; exact Heap.lt_size e
  | frz ob u => obtain ⟨e, _⟩ := x; exact Heap.lt_size e
  | tbl ps => exact Heap.lt_size (show h.get? a = some _ from x)
  | met f y => exact Heap.lt_size (show h.get? a = some _ from x)
  | ext φ => obtain ⟨_, ⟨_, e⟩, _⟩ := x; exact Heap.lt_size e
theorem Paired.mapP {α β : Type} {F G : α → β → Prop} : ∀ {l₁ : List α} {l₂ : List β}, Paired F l₁ l₂ → (∀ a b, F a b → G a b) → Paired G l₁ l₂
  | _, _, .nil, _ => .nil
  | _, _, .cons r t, f => .cons (f _ _ r) (Paired.mapP t f)
theorem ObjOk.stay (x : ObjOk P w H h a o) (k : ∀ b u, (b = a ∨ H b = some (.own a)) → h.get? b = some u → h'.get? b = some u)
    (ho : ∀ b, H b = some (.own a) → H' b = some (.own a)) (ht : ∀ b xs, H b = some (.tup xs) → H' b = some (.tup xs)) : ObjOk P w H' h' a o := by
  induction o with
  | lst xs => obtain ⟨z, its, n, r, e⟩ := x; exact ⟨z, its, n, r, k _ _ (.inl rfl) e⟩
  | tup xs => obtain ⟨z, its, r, ob, e, c⟩ := x; exact ⟨z, its, r, ob, k _ _ (.inl rfl) e, c⟩
  | dK kvs => obtain ⟨z, y, vs, r, ob, es, ep, e, c⟩ := x; exact ⟨z, y, vs, r, ob, es, ep, k _ _ (.inl rfl) e, c⟩
  | dT kvs =>
    obtain ⟨z, y, xs, r, ob, es, ep, e, c⟩ := x
    exact ⟨z, y, xs, Paired.mapP r fun p q z => ⟨z.1, ht _ _ z.2.1, z.2.2⟩, ob, es, ep, k _ _ (.inl rfl) e, c⟩
  | set S n => obtain ⟨ob, es, ep, t, e, c⟩ := x; exact ⟨ob, es, ep, t, k _ _ (.inl rfl) e, c⟩
  | ins C dx fs =>
    obtain ⟨d, z, ne, e, mA, ⟨od, es, ep, e2, c⟩, r⟩ := x
    exact ⟨ho _ d, z, ne, k _ _ (.inl rfl) e, mA, ⟨od, es, ep, k _ _ (.inr d) e2, c⟩, r⟩
  | own y => obtain ⟨ob, e⟩ := x; exact ⟨ob, k _ _ (.inl rfl) e⟩
  | xd fs => obtain ⟨mA, ⟨od, es, ep, e, c⟩, r⟩ := x; exact ⟨mA, ⟨od, es, ep, k _ _ (.inl rfl) e, c⟩, r⟩
  | rng lo hi => obtain ⟨t, u, v, e⟩ := x; exact ⟨t, u, v, k _ _ (.inl rfl) e⟩
  | frz ob u ih => obtain ⟨e, q⟩ := x; exact ⟨k _ _ (.inl rfl) e, ih q⟩
  | tbl ps =>
    have e : h.get? a = some { cls := .none, data := .fields ps } := x
    show h'.get? a = some { cls := .none, data := .fields ps }
    exact k a _ (.inl rfl) e
  | met f y =>
    have e : h.get? a = some (PySem.W.methodObj (.ref f) (.ref y)) := x
    show h'.get? a = some (PySem.W.methodObj (.ref f) (.ref y))
    exact k a _ (.inl rfl) e
  | ext φ => obtain ⟨p, ⟨o, e⟩, st⟩ := x; exact ⟨st _ _ p fun o q => k _ _ (.inl rfl) q, ⟨o, k _ _ (.inl rfl) e⟩, st⟩
theorem HOk.lt (x : HOk P w H h) (e : H a = some o) : a < h.objs.size := (x a o e).lt
theorem HOk.fresh (x : HOk P w H h) (e : h.objs.size ≤ a) : H a = none := by
  cases q : H a with
  | none => rfl
  | some u => exact absurd (Nat.lt_of_lt_of_le (x.lt q) e) (Nat.lt_irrefl _)
theorem HOk.kept (x : HOk P w H h) (k : ∀ b u, h.get? b = some u → h'.get? b = some u) : HOk P w H h' := fun a o e =>
  (x a o e).stay (fun b u _ q => k b u q) (fun _ q => q) fun _ _ q => q
theorem HOk.laid (x : HOk P w H h) (k : ∀ b u, h.get? b = some u → h'.get? b = some u) (hp : h.objs.size ≤ a) (new : ObjOk P w (upd H a o) h' a o) : HOk P w (upd H a o) h' := fun b u e => by
  have hn := x.fresh hp
  by_cases hb : b = a
  · subst hb; rw [upd_same] at e; cases e; exact new
  · rw [upd_ne hb] at e
    exact (x b u e).stay (fun c v _ q => k c v q) (fun c q => by rw [upd_ne (ne_of_none q hn)]; exact q) fun c xs q => by rw [upd_ne (ne_of_none q hn)]; exact q
end
noncomputable def Rd (H : Hp) (a : Addr) (u : HO) : Prop := H a = some u ∨ ∃ o, H a = some (.frz o u)
theorem Rd.ok {P : Program} {w : World} {H : Hp} {h : Heap} {a : Addr} {u : HO} (r : Rd H a u) (x : HOk P w H h) : ObjOk P w H h a u := by
  rcases r with r | ⟨o, r⟩
  · exact x a u r
  · obtain ⟨_, q⟩ := x a _ r
    exact q
noncomputable def Mut : Option HO → Prop
  | some (.lst _) => True
  | some (.dK _) => True
  | some (.dT _) => True
  | some (.set _ _) => True
  | some (.ins _ _ _) => True
  | some (.ext _) => True
  | _ => False
section
variable {P : Program} {w : World} {H : Hp} {h h' : Heap} {x e : Addr} {o' : HO}
theorem HOk.write (ok : HOk P w H h) (mu : Mut (H x)) (he : e = x ∨ H e = some (.own x)) (k : ∀ b u, b ≠ e → h.get? b = some u → h'.get? b = some u) (heo : ∃ u, h'.get? e = some u)
    (new : ObjOk P w (upd H x o') h' x o') : HOk P w (upd H x o') h' := fun b u q => by
  have nown : ∀ c y, H c = some (.own y) → c ≠ x := fun c y r z => by subst z; rw [r] at mu; exact mu
  have ntup : ∀ c xs, H c = some (.tup xs) → c ≠ x := fun c xs r z => by subst z; rw [r] at mu; exact mu
  by_cases hb : b = x
  · subst hb; rw [upd_same] at q; cases q; exact new
  · rw [upd_ne hb] at q
    by_cases hbe : b = e
    · have q' : H b = some (.own x) := by
        rcases he with z | z
        · exact absurd (hbe.trans z) hb
        · rw [hbe]; exact z
      rw [q] at q'; cases q'
      obtain ⟨v, hv⟩ := heo
      exact ⟨v, by rw [hbe]; exact hv⟩
    · refine (ok b u q).stay (fun c v hc r => k c v ?_ r) (fun c r => by rw [upd_ne (nown c b r)]; exact r) fun c xs r => by rw [upd_ne (ntup c xs r)]; exact r
      rcases hc with rfl | hc
      · exact hbe
      · rintro rfl
        rcases he with z | z
        · exact nown c b hc z
        · rw [hc] at z; cases z; exact hb rfl
end
structure Un (fs ex : List Addr) (H H' : Hp) (h h' : Heap) : Prop where
  keep : ∀ b o, h.get? b = some o → H b = none → b ∉ fs → b ∉ ex → h'.get? b = some o
  slot : ∀ b o, h.get? b = some o → H b = none → b ∈ fs → b ∉ ex → ∃ sl, h'.get? b = some { o with slots := sl }
  free : ∀ b o, h.get? b = some o → H b = none → b ∉ ex → H' b = none
  there : ∀ b o, h.get? b = some o → b ∉ ex → ∃ o', h'.get? b = some o'
  tups : ∀ b xs, H b = some (.tup xs) → H' b = some (.tup xs)
  frzs : ∀ b o u, H b = some (.frz o u) → H' b = some (.frz o u)
  tbls : ∀ b ps, H b = some (.tbl ps) → ∃ more, H' b = some (.tbl (ps ++ more))
section
variable {fs fs' ex ex' : List Addr} {H H1 H2 : Hp} {h h1 h2 h' : Heap} {a x e : Addr} {o : HO}
theorem Un.any (u : Un fs ex H H1 h h1) {b : Addr} {ob : Obj} (q : h.get? b = some ob) (n : H b = none) (hx : b ∉ ex) : ∃ sl, h1.get? b = some { ob with slots := sl } := by
  by_cases hb : b ∈ fs
  · exact u.slot b ob q n hb hx
  · exact ⟨ob.slots, u.keep b ob q n hb hx⟩
theorem Un.kept (k : ∀ b u, h.get? b = some u → h'.get? b = some u) : Un fs ex H H h h' :=
  ⟨fun b ob q _ _ _ => k b ob q, fun b ob q _ _ _ => ⟨ob.slots, k b ob q⟩, fun _ _ _ n _ => n, fun b ob q _ => ⟨ob, k b ob q⟩, fun _ _ q => q, fun _ _ _ q => q, fun _ ps q => ⟨#[], by rw [q]; simp⟩⟩
theorem Un.refl : Un fs ex H H h h := Un.kept fun _ _ q => q
theorem Un.laid (k : ∀ b u, h.get? b = some u → h'.get? b = some u) (hp : h.objs.size ≤ a) (hn : H a = none) : Un fs ex H (upd H a o) h h' where
  keep := fun b u q _ _ _ => k b u q
  slot := fun b u q _ _ _ => ⟨u.slots, k b u q⟩
  free := fun b u q n _ => by rw [upd_ne (Nat.ne_of_lt (Nat.lt_of_lt_of_le (Heap.lt_size q) hp))]; exact n
  there := fun b u q _ => ⟨u, k b u q⟩
  tups := fun b xs q => by rw [upd_ne (ne_of_none q hn)]; exact q
  frzs := fun b u xs q => by rw [upd_ne (ne_of_none q hn)]; exact q
  tbls := fun b ps q => ⟨#[], by rw [upd_ne (ne_of_none q hn), q]; simp⟩
theorem Un.write (mu : Mut (H x)) (he : e = x ∨ H e = some (.own x)) (k : ∀ b u, b ≠ e → h.get? b = some u → h'.get? b = some u) (heo : ∃ u, h'.get? e = some u) : Un fs ex H (upd H x o) h h' := by
  have hx : ∀ b, H b = none → b ≠ x := fun b n z => by subst z; rw [n] at mu; exact mu
  have hb : ∀ b, H b = none → b ≠ e := fun b n z => by
    subst z
    rcases he with r | r
    · exact hx b n r
    · rw [n] at r; cases r
  have hm : ∀ b u, H b = some u → ¬ Mut (some u) → b ≠ x := fun b u q nm z => by subst z; rw [q] at mu; exact nm mu
  refine ⟨fun b u q n _ _ => k b u (hb b n) q, fun b u q n _ _ => ⟨u.slots, k b u (hb b n) q⟩, fun b u q n _ => by rw [upd_ne (hx b n)]; exact n, fun b u q _ => ?_,
    fun b xs q => by rw [upd_ne (hm b _ q fun z => z)]; exact q, fun b u xs q => by rw [upd_ne (hm b _ q fun z => z)]; exact q, fun b ps q => ⟨#[], by rw [upd_ne (hm b _ q fun z => z), q]; simp⟩⟩
  by_cases hbe : b = e
  · subst hbe; exact heo
  · exact ⟨u, k b u hbe q⟩
end
noncomputable def trk (h : Heap) (H : Hp) : List Addr := (List.range h.objs.size).filter fun a => (H a).isSome
noncomputable def hidT (h : Heap) (H : Hp) : Heap := PySem.W.hideAll h (trk h H)
theorem hidT_size (h : Heap) (H : Hp) : (hidT h H).objs.size = h.objs.size := PySem.W.hideAll_size _ _
theorem hidT_get {h : Heap} {H : Hp} {b : Addr} {o : Obj} (e : h.get? b = some o) (n : H b = none) : (hidT h H).get? b = some o :=
  PySem.W.hideAll_get _ e fun hm => by
    have q : (H b).isSome = true := (List.mem_filter.mp hm).2
    rw [n] at q; simp at q
theorem of_hidT {h : Heap} {H : Hp} {b : Addr} {o : Obj} (e : (hidT h H).get? b = some o) : h.get? b = some o ∧ H b = none := by
  have e' : h.get? b = some o := PySem.W.of_hideAll (trk h H) e
  refine ⟨e', ?_⟩
  cases q : H b with
  | none => rfl
  | some x =>
    have hm : b ∈ trk h H := List.mem_filter.mpr ⟨List.mem_range.mpr (Heap.lt_size e'), by simp [q]⟩
    have z : (hidT h H).get? b = none := PySem.W.hideAll_none (trk h H) hm
    rw [z] at e; cases e
noncomputable def allNews (g h : Heap) (L : Addr) : List (Addr × Obj) := (List.range h.objs.size).filterMap fun a => if a = L ∨ (g.get? a).isSome = true then none else (h.get? a).map fun o => (a, o)
noncomputable def rest (g h : Heap) (L d : Addr) : List (Addr × Obj) := (allNews g h L).filter fun p => decide (p.1 ≠ d)
end L2
namespace L2
open PySem PySem.Spec PyProof.Rows
structure Mod (K : PySem.W.Frag) (mg : Str → Option Value) (base : Heap) : Prop where
  kin : K.In base
  glob : base.Ns mainGlobals mg
  blt : ∃ mb, base.Ns builtinsNs mb ∧ ∀ x : Str, x ≠ "__name__" → mb x = bootBuiltins x
  nolimit : base.NoLimit
structure Cx where
  prog : Program
  w : World
  K : PySem.W.Frag
  mg : Str → Option Value
  base : Heap
  A : Around
  N : List Str
  s₀ : Shared
  H₀ : Hp
  env : Env
  outer : List Env
  stack : List Env
  ex : List Addr
  fn : Str → Bool
  calm : Bool
  pn : List (Addr × Obj)
  xe : Value → Shared → Prop
noncomputable def frs (l : List Env) : List Addr := l.filterMap (·.frame)
noncomputable abbrev Cx.fs (X : Cx) : List Addr := frs X.outer
noncomputable def Vis (sc : Scope) (x : Str) : Prop := sc.names.lookup x = some .local ∨ sc.names.lookup x = some .cell ∨ sc.names.lookup x = some .free
noncomputable def Loc (sc : Scope) (x : Str) : Prop := sc.names.lookup x = some .local ∨ sc.names.lookup x = some .cell
noncomputable def Look (env : Env) (h : Heap) (m : Str → Option Value) (x : Str) (u : Value) : Prop :=
  (env.kindOf x = some .local ∧ m x = some u) ∨ ((env.kindOf x = some .cell ∨ env.kindOf x = some .free) ∧ ∃ c, env.cells.lookup x = some c ∧ h.IsCell c (some u))
structure Cx.Ok (X : Cx) : Prop where
  mod : Mod X.K X.mg X.base
  kind : X.env.scope.kind = .function
  glob : X.env.globals = mainGlobals
  blt : X.env.builtins = builtinsNs
  above : X.s₀.heap.objs.size ≤ X.env.locals
  inj : ∀ x y c, X.env.cells.lookup x = some c → X.env.cells.lookup y = some c → x = y
  has : ∀ x, (X.env.kindOf x = some .cell ∨ X.env.kindOf x = some .free) → ∃ c, X.env.cells.lookup x = some c
  cab : ∀ x c, X.fn x = true → X.env.cells.lookup x = some c → X.s₀.heap.objs.size ≤ c
  hd : X.calm = true → X.A.handled = none
  frames : X.A.frames = some X.stack
  stk : X.stack = X.outer ∨ (X.stack = X.env :: X.outer ∧ X.env.frame = some X.env.locals)
  exf : ∀ b ∈ X.ex, b ≠ X.env.locals ∧ ∀ x c, X.env.cells.lookup x = some c → c ≠ b
  bs : ∀ b o, X.base.get? b = some o → X.s₀.heap.get? b = some o ∧ X.H₀ b = none
  bsz : X.base.objs.size ≤ X.s₀.heap.objs.size
  noex : ∀ b o, X.base.get? b = some o → b ∉ X.ex
  exfs : ∀ b ∈ X.ex, b ∉ X.fs
  funs : X.s₀.heap.FunFrames X.base X.outer
  frf : ∀ b ∈ X.fs, X.H₀ b = none
structure Inv (X : Cx) (pins : List (Addr × Obj)) (σ : List (Option V)) (H : Hp) (s : Shared) : Prop where
  ok : X.Ok
  os : s.os = X.s₀.os
  bare : AllBare s.gens
  base : Un X.fs X.ex X.H₀ H X.s₀.heap s.heap
  loc : ∃ m, s.heap.Ns X.env.locals m ∧ ∀ (i : Nat) (x : Str) (v : V), X.N[i]? = some x → σ[i]? = some (some v) → Vis X.env.scope x → ∃ u, RelV v u ∧ Look X.env s.heap m x u
  cell : ∀ x c, X.env.cells.lookup x = some c → ∃ v, s.heap.IsCell c v
  free : H X.env.locals = none
  freeC : ∀ x c, X.env.cells.lookup x = some c → H c = none
  pin : ∀ p ∈ X.pn ++ pins, s.heap.get? p.1 = some p.2 ∧ H p.1 = none ∧ p.1 ≠ X.env.locals ∧ p.1 ∉ X.fs ∧ ∀ v, p.2.data ≠ .cell v
  hok : HOk X.prog X.w H s.heap
  len : σ.length = X.N.length
section
variable {X : Cx} {pins : List (Addr × Obj)} {σ : List (Option V)} {H H' : Hp} {s : Shared} {h' : Heap}
theorem Cx.Ok.nofr (ok : X.Ok) {b : Addr} {o : Obj} (e : X.base.get? b = some o) : b ∉ X.fs := fun hb => by
  have := (ok.funs.mem hb).1
  rw [e] at this; cases this
theorem Inv.bs (I : Inv X pins σ H s) : ∀ b o, X.base.get? b = some o → s.heap.get? b = some o ∧ H b = none := fun b o e =>
  ⟨I.base.keep b o (I.ok.bs b o e).1 (I.ok.bs b o e).2 (I.ok.nofr e) (I.ok.noex b o e), I.base.free b o (I.ok.bs b o e).1 (I.ok.bs b o e).2 (I.ok.noex b o e)⟩
theorem Inv.bk (I : Inv X pins σ H s) : ∀ b o, X.base.get? b = some o → s.heap.get? b = some o := fun b o e => (I.bs b o e).1
theorem Inv.mod (I : Inv X pins σ H s) : Mod X.K X.mg X.base := I.ok.mod
theorem Inv.kIn (I : Inv X pins σ H s) : X.K.In s.heap := I.ok.mod.kin.keeps I.bk
theorem Inv.lt (I : Inv X pins σ H s) : X.env.locals < s.heap.objs.size := let ⟨_, hn, _⟩ := I.loc; hn.lt
theorem Inv.sz (I : Inv X pins σ H s) : X.s₀.heap.objs.size ≤ s.heap.objs.size := Nat.le_trans I.ok.above (Nat.le_of_lt I.lt)
theorem Inv.nofs (I : Inv X pins σ H s) {a : Addr} (h : s.heap.objs.size ≤ a) : a ∉ X.fs := fun hb => by
  obtain ⟨_, o, ho, _⟩ := I.ok.funs.mem hb
  exact absurd (Nat.lt_of_lt_of_le (Heap.lt_size ho) (Nat.le_trans I.sz h)) (Nat.lt_irrefl _)
theorem Inv.cne (I : Inv X pins σ H s) : ∀ x c, X.env.cells.lookup x = some c → c ≠ X.env.locals := fun x c e z => by
  obtain ⟨v, o, ho, hd⟩ := I.cell x c e
  obtain ⟨m, ⟨o', es, ep, ho', hd', _⟩, _⟩ := I.loc
  rw [z, ho'] at ho; cases ho; rw [hd'] at hd; cases hd
theorem Inv.funs (I : Inv X pins σ H s) : s.heap.FunFrames X.base X.outer := by
  have all : ∀ (l : List Env), (∀ b ∈ frs l, b ∈ X.fs) → X.s₀.heap.FunFrames X.base l → s.heap.FunFrames X.base l := by
    intro l
    induction l with
    | nil => intro _ _; trivial
    | cons env r ih =>
      intro hs hl
      obtain ⟨hk, ⟨L, o, hf, hn, ho, hd⟩, hr⟩ := hl
      have hL : L ∈ X.fs := hs L (by unfold frs; rw [List.filterMap_cons, hf]; exact List.mem_cons_self)
      obtain ⟨sl, e⟩ := I.base.slot L o ho (I.ok.frf L hL) hL fun z => I.ok.exfs L z hL
      exact ⟨hk, ⟨L, _, hf, hn, e, hd⟩, ih (fun b hb => hs b (by unfold frs; rw [List.filterMap_cons, hf]; exact List.mem_cons_of_mem _ hb)) hr⟩
  exact all X.outer (fun _ hb => hb) I.ok.funs
theorem Inv.stack (I : Inv X pins σ H s) : s.heap.FunFrames X.base X.stack := by
  rcases I.ok.stk with e | ⟨e, hf⟩
  · rw [e]; exact I.funs
  · rw [e]
    obtain ⟨m, hn, _⟩ := I.loc
    refine .cons (by rw [I.ok.kind]; decide) hf hn ?_ I.funs
    exact Heap.get?_none_of_le (Nat.le_trans I.ok.bsz I.ok.above)
theorem Inv.stkSub (I : Inv X pins σ H s) : ∀ b ∈ frs X.stack, b ∈ X.env.locals :: X.fs := fun b hb => by
  rcases I.ok.stk with e | ⟨e, hf⟩
  · rw [e] at hb; exact List.mem_cons_of_mem _ hb
  · rw [e] at hb
    unfold frs at hb
    rw [List.filterMap_cons, hf] at hb
    exact hb
theorem Inv.stkFree (I : Inv X pins σ H s) : ∀ b ∈ frs X.stack, H b = none := fun b hb => by
  rcases List.mem_cons.mp (I.stkSub b hb) with e | hb
  · rw [e]; exact I.free
  · obtain ⟨_, o, ho, _⟩ := I.ok.funs.mem hb
    exact I.base.free b o ho (I.ok.frf b hb) fun z => I.ok.exfs b z hb
theorem Inv.step {g' : Array GenState} {t' : Nat} {d' : Drawn} {ch : List Addr} (I : Inv X pins σ H s)
    (hch : ∀ b ∈ ch, (b ∈ X.ex ∨ X.s₀.heap.objs.size ≤ b) ∧ b ≠ X.env.locals ∧ (∀ x c, X.env.cells.lookup x = some c → c ≠ b) ∧ ∀ p ∈ X.pn ++ pins, p.1 ≠ b)
    (keep : ∀ b o, b ≠ X.env.locals → b ∉ X.fs → b ∉ ch → s.heap.get? b = some o → H b = none → h'.get? b = some o)
    (slot : ∀ b o, b ≠ X.env.locals → b ∈ X.fs → b ∉ ch → s.heap.get? b = some o → H b = none → ∃ sl, h'.get? b = some { o with slots := sl }) (free : ∀ b o, b ∉ ch → s.heap.get? b = some o → H b = none → H' b = none)
    (there : ∀ b o, b ∉ ch → s.heap.get? b = some o → ∃ o', h'.get? b = some o')
    (tups : ∀ b xs, H b = some (.tup xs) → H' b = some (.tup xs)) (frzs : ∀ b o u, H b = some (.frz o u) → H' b = some (.frz o u)) (tbls : ∀ b ps, H b = some (.tbl ps) → ∃ more, H' b = some (.tbl (ps ++ more)))
    (ns : ∀ m, s.heap.Ns X.env.locals m → h'.Ns X.env.locals m) (hok : HOk X.prog X.w H' h') (hg : AllBare g') :
    Inv X pins σ H' { s with heap := h', gens := g', drawn := d', toks := t' } := by
  have neL : ∀ b o, X.s₀.heap.get? b = some o → b ≠ X.env.locals := fun b o e => Nat.ne_of_lt (Nat.lt_of_lt_of_le (Heap.lt_size e) I.ok.above)
  have neC : ∀ b o, X.s₀.heap.get? b = some o → b ∉ X.ex → b ∉ ch := fun b o e hx hb => by
    rcases (hch b hb).1 with z | z
    · exact hx z
    · exact absurd (Nat.lt_of_lt_of_le (Heap.lt_size e) z) (Nat.lt_irrefl _)
  have cellK : ∀ x c, X.env.cells.lookup x = some c → ∀ v, s.heap.IsCell c v → h'.IsCell c v := fun x c e v ⟨o, ho, hd⟩ => by
    have nch : c ∉ ch := fun z => (hch c z).2.2.1 x c e rfl
    by_cases hc : c ∈ X.fs
    · obtain ⟨sl, q⟩ := slot c o (I.cne x c e) hc nch ho (I.freeC x c e)
      exact ⟨_, q, hd⟩
    · exact ⟨o, keep c o (I.cne x c e) hc nch ho (I.freeC x c e), hd⟩
  refine ⟨I.ok, I.os, hg, ⟨fun b o e n hb hx => ?_, fun b o e n hb hx => ?_, fun b o e n hx => ?_, fun b o e hx => ?_, fun b xs e => tups b xs (I.base.tups b xs e), fun b o xs e => frzs b o xs (I.base.frzs b o xs e), fun b ps e => ?_⟩, ?_, fun x c e => ?_, ?_, fun x c e => ?_, fun p hp => ?_, hok, I.len⟩
  · exact keep b o (neL b o e) hb (neC b o e hx) (I.base.keep b o e n hb hx) (I.base.free b o e n hx)
  · obtain ⟨sl, e1⟩ := I.base.slot b o e n hb hx
    obtain ⟨sl', e2⟩ := slot b _ (neL b o e) hb (neC b o e hx) e1 (I.base.free b o e n hx)
    exact ⟨sl', e2⟩
  · obtain ⟨o', e1⟩ := I.base.there b o e hx
    exact free b o' (neC b o e hx) e1 (I.base.free b o e n hx)
  · obtain ⟨o', e1⟩ := I.base.there b o e hx
    exact there b o' (neC b o e hx) e1
  · obtain ⟨m1, e1⟩ := I.base.tbls b ps e
    obtain ⟨m2, e2⟩ := tbls b _ e1
    exact ⟨m1 ++ m2, by rw [e2, Array.append_assoc]⟩
  · obtain ⟨m, hn, hl⟩ := I.loc
    refine ⟨m, ns m hn, fun i x v e1 e2 e3 => ?_⟩
    obtain ⟨u, r, l⟩ := hl i x v e1 e2 e3
    refine ⟨u, r, ?_⟩
    rcases l with l | ⟨k, c, e, z⟩
    · exact .inl l
    · exact .inr ⟨k, c, e, cellK x c e _ z⟩
  · obtain ⟨v, z⟩ := I.cell x c e
    exact ⟨v, cellK x c e v z⟩
  · obtain ⟨m, ⟨o, _, _, ho, _⟩, _⟩ := I.loc
    exact free _ o (fun z => (hch _ z).2.1 rfl) ho I.free
  · obtain ⟨v, o, ho, hd⟩ := I.cell x c e
    exact free c o (fun z => (hch c z).2.2.1 x c e rfl) ho (I.freeC x c e)
  · obtain ⟨e, n, ne, nf, d⟩ := I.pin p hp
    have nch : p.1 ∉ ch := fun z => (hch p.1 z).2.2.2 p hp rfl
    exact ⟨keep p.1 p.2 ne nf nch e n, free p.1 p.2 nch e n, ne, nf, d⟩
theorem Inv.un {t' : Nat} (I : Inv X pins σ H s) (u : Un X.fs [] H H' s.heap h') (hok : HOk X.prog X.w H' h') : Inv X pins σ H' { s with heap := h', toks := t' } := by
  obtain ⟨m, ⟨o, es, ep, ho, r⟩, _⟩ := id I.loc
  obtain ⟨sl, hL⟩ := u.any ho I.free (by simp)
  exact I.step (g' := s.gens) (d' := s.drawn) (ch := []) (fun _ z => nomatch z) (fun b o _ hb _ e n => u.keep b o e n hb (by simp)) (fun b o _ hb _ e n => u.slot b o e n hb (by simp)) (fun b o _ e n => u.free b o e n (by simp)) (fun b o _ e => u.there b o e (by simp)) u.tups u.frzs u.tbls (fun m' hm => by
    obtain ⟨o', es', ep', ho', r'⟩ := hm
    rw [ho] at ho'; cases ho'
    exact ⟨_, es', ep', hL, r'⟩) hok I.bare
theorem Inv.call {g' : Array GenState} {t' : Nat} {d' : Drawn} {ch : List Addr} (I : Inv X pins σ H s) (u : Un (frs X.stack) ch H H' s.heap h') (hok : HOk X.prog X.w H' h') (hg : AllBare g')
    (hch : ∀ b ∈ ch, (b ∈ X.ex ∨ X.s₀.heap.objs.size ≤ b) ∧ b ≠ X.env.locals ∧ (∀ x c, X.env.cells.lookup x = some c → c ≠ b) ∧ ∀ p ∈ X.pn ++ pins, p.1 ≠ b) :
    Inv X pins σ H' { s with heap := h', gens := g', drawn := d', toks := t' } := by
  obtain ⟨m, ⟨o, es, ep, ho, r⟩, _⟩ := id I.loc
  obtain ⟨sl, hL⟩ := u.any ho I.free fun z => (hch _ z).2.1 rfl
  exact I.step (ch := ch) hch (fun b o hL hb hc e n => u.keep b o e n (fun z => (List.mem_cons.mp (I.stkSub b z)).elim hL hb) hc) (fun b o _ _ hc e n => u.any e n hc) (fun b o hc e n => u.free b o e n hc) (fun b o hc e => u.there b o e hc) u.tups u.frzs u.tbls (fun m' hm => by
    obtain ⟨o', es', ep', ho', r'⟩ := hm
    rw [ho] at ho'; cases ho'
    exact ⟨_, es', ep', hL, r'⟩) hok hg
theorem Inv.turned {t' : Nat} {it : Addr} (I : Inv X pins σ H s) (k : ∀ b o, b ≠ it → s.heap.get? b = some o → h'.get? b = some o) (hn : H it = none) (hL : it ≠ X.env.locals)
    (h1 : it ∈ X.ex ∨ X.s₀.heap.objs.size ≤ it) (h2 : ∀ x c, X.env.cells.lookup x = some c → c ≠ it) (h3 : ∀ p ∈ X.pn ++ pins, p.1 ≠ it) : Inv X pins σ H { s with heap := h', toks := t' } := by
  have nit : ∀ b u, H b = some u → b ≠ it := fun b u e z => by rw [z, hn] at e; cases e
  refine I.step (g' := s.gens) (d' := s.drawn) (ch := [it]) (fun b hb => ?_) (fun b o _ _ hc e _ => k b o (fun z => hc (by simp [z])) e) (fun b o _ _ hc e _ => ⟨o.slots, k b o (fun z => hc (by simp [z])) e⟩) (fun _ _ _ _ n => n)
    (fun b o hc e => ⟨o, k b o (fun z => hc (by simp [z])) e⟩) (fun _ _ e => e) (fun _ _ _ e => e) (fun b ps e => ⟨#[], by rw [e]; simp⟩) (fun m hm => ?_) (fun b u e => ?_) I.bare
  · have e : b = it := by simpa using hb
    subst e
    exact ⟨h1, hL, h2, h3⟩
  · obtain ⟨o, es, ep, ho, r⟩ := hm
    exact ⟨o, es, ep, k _ o (Ne.symm hL) ho, r⟩
  · refine (I.hok b u e).stay (fun c v hc q => k c v ?_ q) (fun _ q => q) fun _ _ q => q
    rcases hc with z | z
    · rw [z]; exact nit b u e
    · exact nit c _ z
theorem Inv.tok (I : Inv X pins σ H s) (t : Nat) : Inv X pins σ H { s with toks := t } := I.un (h' := s.heap) (t' := t) Un.refl I.hok
theorem Inv.kept {t' : Nat} (I : Inv X pins σ H s) (k : ∀ b u, s.heap.get? b = some u → h'.get? b = some u) : Inv X pins σ H { s with heap := h', toks := t' } := I.un (Un.kept k) (I.hok.kept k)
theorem Inv.laid {a : Addr} {o : HO} {t' : Nat} (I : Inv X pins σ H s) (k : ∀ b u, s.heap.get? b = some u → h'.get? b = some u) (hp : s.heap.objs.size ≤ a) (new : ObjOk X.prog X.w (upd H a o) h' a o) :
    Inv X pins σ (upd H a o) { s with heap := h', toks := t' } := I.un (Un.laid k hp (I.hok.fresh hp)) (I.hok.laid k hp new)
theorem Inv.write {x e : Addr} {o : HO} {t' : Nat} (I : Inv X pins σ H s) (mu : Mut (H x)) (he : e = x ∨ H e = some (.own x)) (k : ∀ b u, b ≠ e → s.heap.get? b = some u → h'.get? b = some u) (heo : ∃ u, h'.get? e = some u)
    (new : ObjOk X.prog X.w (upd H x o) h' x o) : Inv X pins σ (upd H x o) { s with heap := h', toks := t' } := I.un (Un.write mu he k heo) (I.hok.write mu he k heo new)
theorem Inv.weak {σ' : List (Option V)} (I : Inv X pins σ H s) (hl : σ'.length = σ.length) (w : ∀ (i : Nat) v, σ'[i]? = some (some v) → σ[i]? = some (some v)) : Inv X pins σ' H s :=
  ⟨I.ok, I.os, I.bare, I.base, let ⟨m, hn, hl'⟩ := I.loc; ⟨m, hn, fun i x v e1 e2 e3 => hl' i x v e1 (w i v e2) e3⟩, I.cell, I.free, I.freeC, I.pin, I.hok, hl.trans I.len⟩
theorem Inv.pins_of {pins' : List (Addr × Obj)} (I : Inv X pins σ H s) (h : ∀ p ∈ pins', s.heap.get? p.1 = some p.2 ∧ H p.1 = none ∧ p.1 ≠ X.env.locals ∧ p.1 ∉ X.fs ∧ ∀ v, p.2.data ≠ .cell v) : Inv X pins' σ H s :=
  ⟨I.ok, I.os, I.bare, I.base, I.loc, I.cell, I.free, I.freeC, fun p hp => (List.mem_append.mp hp).elim (fun z => I.pin p (List.mem_append_left _ z)) (h p), I.hok, I.len⟩
theorem nodup_ix {N : List Str} (hN : N.Nodup) {i j : Nat} {x : Str} (a : N[i]? = some x) (b : N[j]? = some x) : i = j := by
  obtain ⟨h1, e1⟩ := List.getElem?_eq_some_iff.mp a
  obtain ⟨h2, e2⟩ := List.getElem?_eq_some_iff.mp b
  exact (List.getElem_inj hN).mp (e1.trans e2.symm)
theorem store_ok2 {M : Model} {A : Around} {E : Value → Shared → Prop} {i : Nat} {x : Str} {v : V} {u : Value} {Q : Unit → Shared → Prop} (I : Inv X pins σ H s) (hN : X.N.Nodup) (hi : X.N[i]? = some x) (hx : Loc X.env.scope x) (r : RelV v u)
    (h : ∀ s', Inv X pins (σ.set i (some v)) H s' → (∃ a, Heap.SameBut a s.heap s'.heap ∧ (a = X.env.locals ∨ X.env.cells.lookup x = some a)) → Q () s') (hf : X.fn x = true ∨ X.env.scope.names.lookup x = some .local := by first | exact .inl rfl | exact .inr rfl | assumption) : wpAny M A (storeName X.env x u) Q E s := by
  obtain ⟨m, hn, hl⟩ := id I.loc
  have hcls : (X.env.scope.kind == .class || (X.env.scope.kind == .module && X.env.locals != X.env.globals)) = false := by rw [I.ok.kind]; rfl
  have hiσ : i < σ.length := by rw [I.len]; exact (List.getElem?_eq_some_iff.mp hi).1
  have cne := I.cne
  have tracked : ∀ {a : Addr} {h' : Heap}, (∃ o, s.heap.get? a = some o ∧ H a = none) → Heap.SameBut a s.heap h' → HOk X.prog X.w H h' := fun {a h'} ha hs b ob e => by
    obtain ⟨_, _, hfree⟩ := ha
    refine (I.hok b ob e).stay (fun c w' hc q => (hs.2 c ?_).trans q) (fun _ q => q) fun _ _ q => q
    rintro rfl
    rcases hc with rfl | hc
    · rw [hfree] at e; cases e
    · rw [hfree] at hc; cases hc
  rcases hx with hk | hk
  · refine wpAny_storeName_local hk hn (fun h' hn' hs => ?_) hcls
    obtain ⟨oL, _, _, hoL, _⟩ := id hn
    refine h _ ⟨I.ok, I.os, I.bare, ⟨fun b o e n hb hx => ?_, fun b o e n hb hx => ?_, I.base.free, fun b o e hx => ?_, I.base.tups, I.base.frzs, I.base.tbls⟩, ⟨_, hn', fun j y v' e1 e2 e3 => ?_⟩, fun y c e => ?_, I.free, I.freeC, fun p hp => ?_, tracked ⟨oL, hoL, I.free⟩ hs, by simpa using I.len⟩ ⟨_, hs, .inl rfl⟩
    · exact (hs.2 b (Nat.ne_of_lt (Nat.lt_of_lt_of_le (Heap.lt_size e) I.ok.above))).trans (I.base.keep b o e n hb hx)
    · obtain ⟨sl, e1⟩ := I.base.slot b o e n hb hx
      exact ⟨sl, (hs.2 b (Nat.ne_of_lt (Nat.lt_of_lt_of_le (Heap.lt_size e) I.ok.above))).trans e1⟩
    · obtain ⟨o', e1⟩ := I.base.there b o e hx
      exact ⟨o', (hs.2 b (Nat.ne_of_lt (Nat.lt_of_lt_of_le (Heap.lt_size e) I.ok.above))).trans e1⟩
    · by_cases hj : j = i
      · subst hj
        rw [hi] at e1; cases e1
        rw [List.getElem?_set_self hiσ] at e2
        cases e2
        exact ⟨u, r, .inl ⟨hk, by simp⟩⟩
      · rw [List.getElem?_set_ne (Ne.symm hj)] at e2
        obtain ⟨u', r', q⟩ := hl j y v' e1 e2 e3
        refine ⟨u', r', ?_⟩
        rcases q with ⟨k, e⟩ | ⟨k, c, e, z⟩
        · refine .inl ⟨k, ?_⟩
          have : y ≠ x := fun e => hj (nodup_ix hN e1 (e ▸ hi))
          simp [this, e]
        · exact .inr ⟨k, c, e, z.sameBut hs (cne y c e)⟩
    · obtain ⟨w', z⟩ := I.cell y c e
      exact ⟨w', z.sameBut hs (cne y c e)⟩
    · obtain ⟨e, n, ne, nf, d⟩ := I.pin p hp
      exact ⟨(hs.2 p.1 ne).trans e, n, ne, nf, d⟩
  · have hfn : X.fn x = true := by
      rcases hf with z | z
      · exact z
      · rw [z] at hk; cases hk
    obtain ⟨c, hc⟩ := I.ok.has x (.inl hk)
    obtain ⟨w', z⟩ := I.cell x c hc
    refine wpAny_storeName_cell I.ok.kind hk hc z (fun h' hc' hs => ?_)
    obtain ⟨oc, hoc, hocd⟩ := id z
    refine h { s with heap := h' } ⟨I.ok, I.os, I.bare, ⟨fun b o e n hb hx => ?_, fun b o e n hb hx => ?_, I.base.free, fun b o e hx => ?_, I.base.tups, I.base.frzs, I.base.tbls⟩, ⟨m, hn.sameBut hs (Ne.symm (cne x c hc)), fun j y v' e1 e2 e3 => ?_⟩, fun y c' e => ?_, I.free, I.freeC, fun p hp => ?_, tracked ⟨oc, hoc, I.freeC x c hc⟩ hs, by simpa using I.len⟩ ⟨c, hs, .inr hc⟩
    · exact (hs.2 b (Nat.ne_of_lt (Nat.lt_of_lt_of_le (Heap.lt_size e) (I.ok.cab x c hfn hc)))).trans (I.base.keep b o e n hb hx)
    · obtain ⟨sl, e1⟩ := I.base.slot b o e n hb hx
      exact ⟨sl, (hs.2 b (Nat.ne_of_lt (Nat.lt_of_lt_of_le (Heap.lt_size e) (I.ok.cab x c hfn hc)))).trans e1⟩
    · obtain ⟨o', e1⟩ := I.base.there b o e hx
      exact ⟨o', (hs.2 b (Nat.ne_of_lt (Nat.lt_of_lt_of_le (Heap.lt_size e) (I.ok.cab x c hfn hc)))).trans e1⟩
    · by_cases hj : j = i
      · subst hj
        rw [hi] at e1; cases e1
        rw [List.getElem?_set_self hiσ] at e2
        cases e2
        exact ⟨u, r, .inr ⟨.inl hk, c, hc, hc'⟩⟩
      · rw [List.getElem?_set_ne (Ne.symm hj)] at e2
        obtain ⟨u', r', q⟩ := hl j y v' e1 e2 e3
        refine ⟨u', r', ?_⟩
        rcases q with q | ⟨k, c', e, z'⟩
        · exact .inl q
        · refine .inr ⟨k, c', e, z'.sameBut hs ?_⟩
          rintro rfl
          exact hj (nodup_ix hN e1 (I.ok.inj _ _ _ e hc ▸ hi))
    · by_cases hcc : c' = c
      · subst hcc; exact ⟨_, hc'⟩
      · obtain ⟨w2, z2⟩ := I.cell y c' e
        exact ⟨w2, z2.sameBut hs hcc⟩
    · obtain ⟨e, n, ne, nf, d⟩ := I.pin p hp
      refine ⟨(hs.2 p.1 ?_).trans e, n, ne, nf, d⟩
      intro q
      rw [q, hoc] at e
      have q' : oc = p.2 := Option.some.inj e
      exact d w' (by rw [← q']; exact hocd)
theorem store_ok {M : Model} {A : Around} {E : Value → Shared → Prop} {i : Nat} {x : Str} {v : V} {u : Value} {Q : Unit → Shared → Prop} (I : Inv X pins σ H s) (hN : X.N.Nodup) (hi : X.N[i]? = some x) (hx : Loc X.env.scope x) (r : RelV v u)
    (h : ∀ s', Inv X pins (σ.set i (some v)) H s' → Q () s') (hf : X.fn x = true ∨ X.env.scope.names.lookup x = some .local := by first | exact .inl rfl | exact .inr rfl | assumption) : wpAny M A (storeName X.env x u) Q E s :=
  store_ok2 I hN hi hx r (fun s' I' _ => h s' I') hf
theorem Inv.call' {s' : Shared} {ch : List Addr} (I : Inv X pins σ H s) (ho : s'.os = s.os) (u : Un (frs X.stack) ch H H' s.heap s'.heap) (hok : HOk X.prog X.w H' s'.heap) (hg : AllBare s'.gens)
    (hch : ∀ b ∈ ch, (b ∈ X.ex ∨ X.s₀.heap.objs.size ≤ b) ∧ b ≠ X.env.locals ∧ (∀ x c, X.env.cells.lookup x = some c → c ≠ b) ∧ ∀ p ∈ X.pn ++ pins, p.1 ≠ b) : Inv X pins σ H' s' := by
  obtain ⟨h', g', d', t', o'⟩ := s'
  have e : o' = s.os := ho
  subst e
  exact I.call (g' := g') (t' := t') (d' := d') u hok hg hch
end
noncomputable abbrev XK := Value → Option Addr → Hp → Prop
noncomputable abbrev St := List (Option V)
noncomputable abbrev VK := V → Hp → Prop
noncomputable abbrev TE := St → Hp → VK → Prop
noncomputable abbrev TT := St → Hp → (Bool → Hp → Prop) → Prop
noncomputable abbrev TA := St → Hp → (List V → Hp → Prop) → Prop
structure Ends where
  nx : St → Hp → Prop
  rt : VK
  bk : St → Hp → Prop := fun _ _ => False
  ct : St → Hp → Prop := fun _ _ => False
noncomputable abbrev TS := Ends → St → Hp → Prop
noncomputable def EP (X : Cx) (pins : List (Addr × Obj)) (σ : St) (Q : VK) (u : Value) (s' : Shared) : Prop := ∃ v H', Inv X pins σ H' s' ∧ RelV v u ∧ Q v H'
noncomputable def TP (X : Cx) (pins : List (Addr × Obj)) (σ : St) (Q : Bool → Hp → Prop) (b : Bool) (s' : Shared) : Prop := ∃ H', Inv X pins σ H' s' ∧ Q b H'
noncomputable def AP (X : Cx) (pins : List (Addr × Obj)) (σ : St) (Q : List V → Hp → Prop) (us : List Value) (s' : Shared) : Prop := ∃ vs H', Inv X pins σ H' s' ∧ Vals vs us ∧ Q vs H'
noncomputable def SP (X : Cx) (pins : List (Addr × Obj)) (D : Ends) (f : Flow) (s' : Shared) : Prop :=
  match f with
  | .next => ∃ σ' H', Inv X pins σ' H' s' ∧ D.nx σ' H'
  | .brk => ∃ σ' H', Inv X pins σ' H' s' ∧ D.bk σ' H'
  | .cont => ∃ σ' H', Inv X pins σ' H' s' ∧ D.ct σ' H'
  | .ret u => ∃ v σ' H', Inv X pins σ' H' s' ∧ RelV v u ∧ D.rt v H'
noncomputable def PE (X : Cx) (e : Expr) (t : TE) : Prop :=
  ∀ (pins : List (Addr × Obj)) (s : Shared) (σ : St) (H : Hp) (Q : VK), Inv X pins σ H s → t σ H Q → wpAny (model X.prog X.w) X.A (eval e X.env) (EP X pins σ Q) X.xe s
noncomputable def PT (X : Cx) (e : Expr) (t : TT) : Prop :=
  ∀ (pins : List (Addr × Obj)) (s : Shared) (σ : St) (H : Hp) (Q : Bool → Hp → Prop), Inv X pins σ H s → t σ H Q → wpAny (model X.prog X.w) X.A (isTrue e X.env (eval e X.env)) (TP X pins σ Q) X.xe s
noncomputable def PW (X : Cx) (e : Expr) (t : TT) : Prop :=
  ∀ (whole : Sem Value) (pins : List (Addr × Obj)) (s : Shared) (σ : St) (H : Hp) (Q : Bool → Hp → Prop), Inv X pins σ H s → t σ H Q → wpAny (model X.prog X.w) X.A (isTrue e X.env whole) (TP X pins σ Q) X.xe s
theorem PW.pt {X : Cx} {e : Expr} {t : TT} (h : PW X e t) : PT X e t := h _
noncomputable def PA (X : Cx) (es : List Expr) (t : TA) : Prop :=
  ∀ (pos : Pos) (pins : List (Addr × Obj)) (s : Shared) (σ : St) (H : Hp) (Q : List V → Hp → Prop), Inv X pins σ H s → t σ H Q → wpAny (model X.prog X.w) X.A (spliced (backTo pos (starEach es X.env))) (AP X pins σ Q) X.xe s
noncomputable def PS (X : Cx) (st : Stmt) (t : TS) : Prop :=
  ∀ (pins : List (Addr × Obj)) (s : Shared) (σ : St) (H : Hp) (D : Ends), Inv X pins σ H s → t D σ H → wpAny (model X.prog X.w) X.A (exec st X.env) (SP X pins D) X.xe s
noncomputable def PSs (X : Cx) (st : List Stmt) (t : TS) : Prop :=
  ∀ (pins : List (Addr × Obj)) (s : Shared) (σ : St) (H : Hp) (D : Ends), Inv X pins σ H s → t D σ H → wpAny (model X.prog X.w) X.A (execs st X.env) (SP X pins D) X.xe s
theorem thn {α : Type} {t : Sem α} {Q Q' : α → Shared → Prop} {M : Model} {A : Around} {E : Value → Shared → Prop} {s : Shared} (h : wpAny M A t Q E s) (hQ : ∀ a s, Q a s → Q' a s) : wpAny M A t Q' E s := wpAny_mono h hQ fun _ _ x => x
end L2
namespace L2
open PySem PySem.Spec PyProof.Rows
section
variable {X : Cx}
noncomputable def tVar (i : Nat) : TE := fun σ H Q => ∃ v, σ[i]? = some (some v) ∧ Q v H
noncomputable def tC (v : V) : TE := fun _ H Q => Q v H
theorem pe_var {i : Nat} {x : Str} {pos : Pos} (hN : X.N[i]? = some x) (hv : Vis X.env.scope x) (hd : (x == ("__debug__" : Str)) = false := by decide) (hcd : (x == ("__classdict__" : Str)) = false := by decide) : PE X (.Name x pos) (tVar i) := by
  intro pins s σ H Q I h
  obtain ⟨v, e, h⟩ := h
  obtain ⟨m, hn, hl⟩ := I.loc
  obtain ⟨u, r, l⟩ := hl i x v hN e hv
  have fin : EP X pins σ Q u s := ⟨v, H, I, r, h⟩
  rcases l with ⟨hk, hm⟩ | ⟨hk, c, hc, hcell⟩
  · exact wpAny_Name (wpAny_loadName_local I.ok.kind hk hn hm fin) hd
  · rcases hk with hk | hk
    · exact wpAny_Name (wpAny_loadName_cell I.ok.kind hk hc hcell fin) hd
    · exact wpAny_Name (wpAny_loadName_free I.ok.kind hk hc hcell fin hcd) hd
theorem pe_int {i j pos} : PE X (.Constant (.int i) j pos) (tC (.int i)) := fun _ _ _ H _ I h => wpAny_Constant_int ⟨.int i, H, I.tok _, ⟨_, rfl⟩, h⟩
theorem pe_bl {b j pos} : PE X (.Constant (.bool b) j pos) (tC (.bl b)) := fun _ _ _ H _ I h => Constant_bool ⟨.bl b, H, I, rfl, h⟩
noncomputable def Gl (X : Cx) (x : Str) : Prop := X.env.kindOf x = some .globalImplicit
theorem ld_glob {E : Value → Shared → Prop} {pins : List (Addr × Obj)} {s : Shared} {σ : St} {H : Hp} {x : Str} {u : Value} {pos : Pos} {Q : Value → Shared → Prop} (I : Inv X pins σ H s) (hg : Gl X x) (hm : X.mg x = some u) (h : Q u s)
    (hd : (x == ("__debug__" : Str)) = false := by decide) : wpAny (model X.prog X.w) X.A (eval (.Name x pos) X.env) Q E s :=
  Calls.Name_function_global I.ok.kind hg (Calls.loadGlobal_global (by rw [I.ok.glob]; exact I.mod.glob.keeps I.bk) hm h) hd
theorem ld_blt {E : Value → Shared → Prop} {pins : List (Addr × Obj)} {s : Shared} {σ : St} {H : Hp} {x : Str} {u : Value} {pos : Pos} {Q : Value → Shared → Prop} (I : Inv X pins σ H s) (hg : Gl X x) (hm : X.mg x = none) (hv : bootBuiltins x = some u) (h : Q u s)
    (hn : x ≠ "__name__" := by decide) (hd : (x == ("__debug__" : Str)) = false := by decide) : wpAny (model X.prog X.w) X.A (eval (.Name x pos) X.env) Q E s := by
  obtain ⟨mb, h1, h2⟩ := I.mod.blt
  exact Calls.Name_function_global I.ok.kind hg (Calls.loadGlobal_builtin (by rw [I.ok.glob]; exact I.mod.glob.keeps I.bk) hm (by rw [I.ok.blt]; exact h1.keeps I.bk) ((h2 x hn).trans hv) h) hd
theorem pe_glob {x : Str} {v : V} {u : Value} {pos : Pos} (hg : Gl X x) (hm : X.mg x = some u) (r : RelV v u) (hd : (x == ("__debug__" : Str)) = false := by decide) : PE X (.Name x pos) (tC v) :=
  fun _ _ _ H _ I h => ld_glob I hg hm ⟨v, H, I, r, h⟩ hd
theorem pe_bltn {x : Str} {v : V} {u : Value} {pos : Pos} (hg : Gl X x) (hm : X.mg x = none) (hv : bootBuiltins x = some u) (r : RelV v u) (hn : x ≠ "__name__" := by decide) (hd : (x == ("__debug__" : Str)) = false := by decide) : PE X (.Name x pos) (tC v) :=
  fun _ _ _ H _ I h => ld_blt I hg hm hv ⟨v, H, I, r, h⟩ hn hd
variable {a b : Expr} {ta tb : TE} {pos : Pos}
noncomputable def tB (t : TE) : TT := fun σ H Q => t σ H fun x H1 => ∃ c, x = .bl c ∧ Q c H1
theorem pt_val {e : Expr} {t : TE} (h : PE X e t) (he : ∀ whole, isTrue e X.env whole = (do let v ← whole; standAt e.pos; holding [v] (truthy v)) := by intro _; rfl) : PT X e (tB t) := by
  intro pins s σ H Q I hw
  refine isTrue_plain (thn (h pins s σ H _ I hw) fun v s1 ⟨x, H1, I1, r1, q1⟩ => ?_) (he _)
  obtain ⟨d, rfl, q⟩ := q1
  cases r1
  exact wpAny_truthy_bool ⟨H1, I1, q⟩
variable {tA tB' : TT} {rest : List Expr}
noncomputable def tAnd (t u : TT) : TT := fun σ H Q => t σ H fun c H1 => if c = true then u σ H1 Q else Q false H1
noncomputable def tOr (t u : TT) : TT := fun σ H Q => t σ H fun c H1 => if c = true then Q true H1 else u σ H1 Q
noncomputable def tNot (t : TT) : TT := fun σ H Q => t σ H fun c H1 => Q (!c) H1
theorem pw_and1 (ha : PT X a tA) : PW X (.BoolOp .And [a] pos) tA := by
  intro wh pins s σ H Q I h
  refine isTrue_and (thn (ha pins s σ H Q I h) fun c s1 e => ?_)
  cases c with
  | true => exact isTrue_and_nil e
  | false => exact e
theorem pw_or1 (ha : PT X a tA) : PW X (.BoolOp .Or [a] pos) tA := by
  intro wh pins s σ H Q I h
  refine isTrue_or (thn (ha pins s σ H Q I h) fun c s1 e => ?_)
  cases c with
  | false => exact isTrue_or_nil e
  | true => exact e
theorem pw_and (ha : PT X a tA) (hb : PW X (.BoolOp .And (b :: rest) pos) tB') : PW X (.BoolOp .And (a :: b :: rest) pos) (tAnd tA tB') := by
  intro wh pins s σ H Q I h
  refine isTrue_and (thn (ha pins s σ H _ I h) fun c s1 ⟨H1, I1, q1⟩ => ?_)
  cases c with
  | true => exact hb wh pins s1 σ H1 Q I1 q1
  | false => exact ⟨H1, I1, q1⟩
theorem pw_or (ha : PT X a tA) (hb : PW X (.BoolOp .Or (b :: rest) pos) tB') : PW X (.BoolOp .Or (a :: b :: rest) pos) (tOr tA tB') := by
  intro wh pins s σ H Q I h
  refine isTrue_or (thn (ha pins s σ H _ I h) fun c s1 ⟨H1, I1, q1⟩ => ?_)
  cases c with
  | true => exact ⟨H1, I1, q1⟩
  | false => exact hb wh pins s1 σ H1 Q I1 q1
theorem pt_not (ha : PT X a tA) : PT X (.UnaryOp .Not a pos) (tNot tA) := by
  intro pins s σ H Q I h
  exact isTrue_not (ha pins s σ H (fun c H1 => Q (!c) H1) I h)
noncomputable def tAndV (ta tb : TE) : TE := fun σ H Q => ta σ H fun x H1 => ∃ c, x = .bl c ∧ if c = true then tb σ H1 Q else Q (.bl false) H1
noncomputable def tNotV (ta : TE) : TE := fun σ H Q => ta σ H fun x H1 => ∃ c, x = .bl c ∧ Q (.bl (!c)) H1
theorem pe_one {op} {t : TE} (h : PE X a t) : PE X (.BoolOp op [a] pos) t := fun pins s σ H Q I hw => BoolOp_one (h pins s σ H Q I hw)
theorem pe_and (ha : PE X a ta) (hb : PE X (.BoolOp .And (b :: rest) pos) tb) : PE X (.BoolOp .And (a :: b :: rest) pos) (tAndV ta tb) := by
  intro pins s σ H Q I h
  refine BoolOp_and (thn (ha pins s σ H _ I h) fun v s1 ⟨x, H1, I1, r1, q1⟩ => ?_)
  obtain ⟨c, rfl, q1⟩ := q1
  cases r1
  refine wpAny_truthy_bool ?_
  cases c with
  | true => exact hb pins s1 σ H1 Q I1 q1
  | false => exact ⟨.bl false, H1, I1, rfl, q1⟩
theorem pe_not (ha : PE X a ta) : PE X (.UnaryOp .Not a pos) (tNotV ta) := by
  intro pins s σ H Q I h
  refine UnaryOp_ (thn (ha pins s σ H _ I h) fun v s1 ⟨x, H1, I1, r1, q1⟩ => ?_)
  obtain ⟨c, rfl, q1⟩ := q1
  cases r1
  exact not_of (wpAny_truthy_bool ⟨.bl (!c), H1, I1, rfl, q1⟩)
end
end L2
namespace L2
open PySem PySem.Spec PyProof.Rows
noncomputable def SqL (K : PySem.W.Frag) (H : Hp) (a : Addr) (xs : List V) : Prop :=
  Rd H a (.lst xs) ∨
    ∃ (o : Obj) (its : Array Value) (n : Nat), K.lookup a = some o ∧ o.cls = .type "list" ∧ o.dict = none ∧ o.data = .seq its n ∧ its.size ≤ sizeLine ∧ Vals xs its.toList
noncomputable def SqT (K : PySem.W.Frag) (H : Hp) (a : Addr) (xs : List V) : Prop :=
  Rd H a (.tup xs) ∨
    ∃ (o : Obj) (its : Array Value) (n : Nat), K.lookup a = some o ∧ o.cls = .type "tuple" ∧ o.data = .seq its n ∧ its.size ≤ sizeLine ∧ Vals xs its.toList
noncomputable def absV : Value → Option V
  | .none => some .non
  | .bool b => some (.bl b)
  | .int i _ => some (.int i)
  | .str x _ => some (.str x)
  | .bytes b _ => some (.byt b)
  | .float b _ => some (.flt b)
  | .ref a => some (.ref a)
  | .type n => some (.ty n)
  | _ => none
theorem RelV.abs {x : V} {u : Value} (r : RelV x u) : absV u = some x := by
  cases x with
  | non => cases r; rfl
  | bl _ => cases r; rfl
  | int _ => obtain ⟨t, rfl⟩ := r; rfl
  | str _ => obtain ⟨t, rfl⟩ := r; rfl
  | byt _ => obtain ⟨t, rfl⟩ := r; rfl
  | flt _ => obtain ⟨t, rfl⟩ := r; rfl
  | ref _ => cases r; rfl
  | ty _ => cases r; rfl
theorem RelV.inj {x y : V} {u : Value} (r : RelV x u) (q : RelV y u) : x = y := Option.some.inj (r.abs.symm.trans q.abs)
theorem Vals.inj : ∀ {xs ys : List V} {us : List Value}, Vals xs us → Vals ys us → xs = ys
  | _, _, _, .nil, .nil => rfl
  | _, _, _, .cons r t, .cons r' t' => by rw [r.inj r', Vals.inj t t']
section
variable {X : Cx} {pins : List (Addr × Obj)} {σ : St} {H : Hp} {s : Shared} {a : Addr} {xs ys : List V}
theorem SqL.of {K : PySem.W.Frag} (h : H a = some (.lst xs)) : SqL K H a xs := .inl (.inl h)
theorem SqT.of {K : PySem.W.Frag} (h : H a = some (.tup xs)) : SqT K H a xs := .inl (.inl h)
theorem Inv.list (I : Inv X pins σ H s) (h : SqL X.K H a xs) : ∃ its : List Value, Vals xs its ∧ PlainL s.heap a its.toArray ∧ xs.length ≤ sizeLine := by
  rcases h with h | ⟨o, its, n, hk, hc, hd, hs, hz, r⟩
  · obtain ⟨z, its, n, r, e⟩ := h.ok I.hok
    exact ⟨its, r, ⟨_, n, e, rfl, rfl, rfl⟩, z⟩
  · refine ⟨its.toList, r, ⟨o, n, I.kIn a o hk, hc, hd, by simpa using hs⟩, ?_⟩
    have e := r.length
    simp only [Array.length_toList] at e
    (first | lia | omega)
theorem Inv.tuple (I : Inv X pins σ H s) (h : SqT X.K H a xs) : ∃ its : List Value, Vals xs its ∧ IsTup s.heap a its.toArray ∧ xs.length ≤ sizeLine := by
  rcases h with h | ⟨o, its, n, hk, hc, hs, hz, r⟩
  · obtain ⟨z, its, r, p⟩ := h.ok I.hok
    exact ⟨its, r, p, z⟩
  · refine ⟨its.toList, r, ⟨o, I.kIn a o hk, hc, n, by simpa using hs⟩, ?_⟩
    have e := r.length
    simp only [Array.length_toList] at e
    (first | lia | omega)
theorem Inv.list_inj (I : Inv X pins σ H s) (h : SqL X.K H a xs) (h' : SqL X.K H a ys) : xs = ys := by
  obtain ⟨its, r, ⟨o, n, e, _, _, d⟩, _⟩ := I.list h
  obtain ⟨its', r', ⟨o', n', e', _, _, d'⟩, _⟩ := I.list h'
  rw [e] at e'; cases e'
  rw [d] at d'
  injection d' with d1 _
  have : its = its' := by simpa using congrArg Array.toList d1
  subst this
  exact r.inj r'
theorem Inv.tuple_inj (I : Inv X pins σ H s) (h : SqT X.K H a xs) (h' : SqT X.K H a ys) : xs = ys := by
  obtain ⟨its, r, ⟨o, e, _, n, d⟩, _⟩ := I.tuple h
  obtain ⟨its', r', ⟨o', e', _, n', d'⟩, _⟩ := I.tuple h'
  rw [e] at e'; cases e'
  rw [d] at d'
  injection d' with d1 _
  have : its = its' := by simpa using congrArg Array.toList d1
  subst this
  exact r.inj r'
end
noncomputable abbrev Cx.wish (X : Cx) (E : Value → Shared → Prop) : Cx := { X with xe := E }
noncomputable abbrev Cx.nox (X : Cx) : Cx := X.wish fun _ _ => False
theorem Cx.Ok.wish {X : Cx} (ok : X.Ok) (E : Value → Shared → Prop) : (X.wish E).Ok :=
  ⟨ok.mod, ok.kind, ok.glob, ok.blt, ok.above, ok.inj, ok.has, ok.cab, ok.hd, ok.frames, ok.stk, ok.exf, ok.bs, ok.bsz, ok.noex, ok.exfs, ok.funs, ok.frf⟩
theorem Cx.Ok.unwish {X : Cx} {E : Value → Shared → Prop} (ok : (X.wish E).Ok) : X.Ok :=
  ⟨ok.mod, ok.kind, ok.glob, ok.blt, ok.above, ok.inj, ok.has, ok.cab, ok.hd, ok.frames, ok.stk, ok.exf, ok.bs, ok.bsz, ok.noex, ok.exfs, ok.funs, ok.frf⟩
section
variable {X : Cx} {pins : List (Addr × Obj)} {σ : St} {H : Hp} {s : Shared} {E : Value → Shared → Prop}
theorem Inv.wish (I : Inv X pins σ H s) (E : Value → Shared → Prop) : Inv (X.wish E) pins σ H s := ⟨I.ok.wish E, I.os, I.bare, I.base, I.loc, I.cell, I.free, I.freeC, I.pin, I.hok, I.len⟩
theorem Inv.unwish (I : Inv (X.wish E) pins σ H s) : Inv X pins σ H s := ⟨I.ok.unwish, I.os, I.bare, I.base, I.loc, I.cell, I.free, I.freeC, I.pin, I.hok, I.len⟩
theorem SP.unwish {D : Ends} {f : Flow} {s' : Shared} (h : SP (X.wish E) pins D f s') : SP X pins D f s' := by
  cases f with
  | next => obtain ⟨σ', H', I, q⟩ := h; exact ⟨σ', H', I.unwish, q⟩
  | brk => obtain ⟨σ', H', I, q⟩ := h; exact ⟨σ', H', I.unwish, q⟩
  | cont => obtain ⟨σ', H', I, q⟩ := h; exact ⟨σ', H', I.unwish, q⟩
  | ret u => obtain ⟨v, σ', H', I, r, q⟩ := h; exact ⟨v, σ', H', I.unwish, r, q⟩
theorem PSs.nox {st : List Stmt} {t : TS} (h : PSs X.nox st t) : PSs X st t := fun pins s σ H D I hw =>
  wpAny_mono (h pins s σ H D (I.wish _) hw) (fun _ _ q => q.unwish) fun _ _ z => False.elim z
end
section
variable {X : Cx} {st : Stmt} {rest : List Stmt} {t u : TS} {e : Expr} {te : TE} {pos : Pos}
noncomputable def tNext : TS := fun D σ H => D.nx σ H
noncomputable def tSeq (t u : TS) : TS := fun D σ H => t { D with nx := u D } σ H
theorem pss_nil : PSs X [] tNext := fun _ _ σ H _ I h => wpAny_execs_nil ⟨σ, H, I, h⟩
theorem pss_cons (h1 : PS X st t) (h2 : PSs X rest u) : PSs X (st :: rest) (tSeq t u) := by
  intro pins s σ H D I h
  refine wpAny_execs_cons (thn (h1 pins s σ H { D with nx := u D } I h) fun f s1 q => ?_)
  cases f with
  | next =>
    obtain ⟨σ', H', I', q⟩ := q
    exact h2 pins s1 σ' H' D I' q
  | ret v => exact q
  | brk => exact q
  | cont => exact q
theorem pss_one (h1 : PS X st t) : PSs X [st] t := by
  intro pins s σ H D I h
  refine wpAny_execs_cons (thn (h1 pins s σ H D I h) fun f s1 q => ?_)
  cases f with
  | next => exact wpAny_execs_nil q
  | ret v => exact q
  | brk => exact q
  | cont => exact q
theorem Inv.quiet {pins : List (Addr × Obj)} {σ : St} {H : Hp} {s : Shared} (I : Inv X pins σ H s) : interactive X.env = false := by simp [interactive, I.ok.kind]
noncomputable def tDrop (te : TE) : TS := fun D σ H => te σ H fun _ H1 => D.nx σ H1
theorem ps_expr (he : PE X e te) (hs : swapsWith e none pos.line X.env = pure false := by rfl) : PS X (.Expr e pos) (tDrop te) := by
  intro pins s σ H D I h
  exact wpAny_Expr_any (thn (he pins s σ H _ I h) fun v s1 ⟨x, H1, I1, r1, q1⟩ => ⟨σ, H1, I1, q1⟩) I.quiet hs
noncomputable def tRet (te : TE) : TS := fun D σ H => te σ H D.rt
theorem ps_ret (he : PE X e te) : PS X (.Return (some e) pos) (tRet te) := by
  intro pins s σ H D I h
  exact wpAny_Return_some (thn (he pins s σ H _ I h) fun v s1 ⟨x, H1, I1, r1, q1⟩ => ⟨x, σ, H1, I1, r1, q1⟩)
noncomputable def tIfS (c : TT) (t u : TS) : TS := fun D σ H => c σ H fun b H1 => if b = true then t D σ H1 else u D σ H1
theorem ps_if {c : Expr} {a b : List Stmt} {tc : TT} (hc : PT X c tc) (ha : PSs X a t) (hb : PSs X b u) : PS X (.If c a b pos) (tIfS tc t u) := by
  intro pins s σ H D I h
  refine wpAny_If (thn (hc pins s σ H _ I h) fun d s1 ⟨H1, I1, q1⟩ => ?_)
  cases d with
  | true => exact ha pins s1 σ H1 D I1 q1
  | false => exact hb pins s1 σ H1 D I1 q1
noncomputable def tNever : TS := fun _ _ _ => False
theorem pss_never {sts : List Stmt} : PSs X sts tNever := fun _ _ _ _ _ _ h => h.elim
end
noncomputable abbrev TG := V → St → Hp → (St → Hp → Prop) → Prop
noncomputable abbrev TGs := List V → St → Hp → (St → Hp → Prop) → Prop
noncomputable def PG (X : Cx) (target : Expr) (t : TG) : Prop :=
  ∀ (pins : List (Addr × Obj)) (s : Shared) (σ : St) (H : Hp) (v : V) (u : Value) (Q : St → Hp → Prop), Inv X pins σ H s → RelV v u → t v σ H Q →
    wpAny (model X.prog X.w) X.A (assign target X.env u) (fun _ s' => ∃ σ' H', Inv X pins σ' H' s' ∧ Q σ' H') X.xe s
noncomputable def PGs (X : Cx) (ts : List Expr) (t : TGs) : Prop :=
  ∀ (pins : List (Addr × Obj)) (s : Shared) (σ : St) (H : Hp) (vs : List V) (us : List Value) (Q : St → Hp → Prop), Inv X pins σ H s → Vals vs us → t vs σ H Q →
    wpAny (model X.prog X.w) X.A (assignInOrder ((assignEach ts X.env).map (·.2)) us) (fun _ s' => ∃ σ' H', Inv X pins σ' H' s' ∧ Q σ' H') X.xe s
noncomputable abbrev TSet := V → V → V → Hp → (Hp → Prop) → Prop
noncomputable def PSet (X : Cx) (t : TSet) : Prop :=
  ∀ (pins : List (Addr × Obj)) (s : Shared) (σ : St) (H : Hp) (o i v : V) (ov iv u : Value) (Q : Hp → Prop), Inv X pins σ H s → RelV o ov → RelV i iv → RelV v u → t o i v H Q →
    wpAny (model X.prog X.w) X.A (setItem ov iv u) (fun _ s' => ∃ H', Inv X pins σ H' s' ∧ Q H') X.xe s
section
variable {X : Cx} {pos : Pos}
noncomputable def gName (i : Nat) : TG := fun v σ H Q => Q (σ.set i (some v)) H
theorem pg_name {i : Nat} {x : Str} (hN : X.N.Nodup) (hi : X.N[i]? = some x) (hx : Loc X.env.scope x) (hf : X.fn x = true ∨ X.env.scope.names.lookup x = some .local := by first | exact .inl rfl | exact .inr rfl | assumption) : PG X (.Name x pos) (gName i) := by
  intro pins s σ H v u Q I r h
  exact wpAny_assign_Name (store_ok I hN hi hx r (fun s' I' => ⟨_, H, I', h⟩) hf)
noncomputable def gNil : TGs := fun vs σ H Q => vs = [] ∧ Q σ H
noncomputable def gCons (t : TG) (u : TGs) : TGs := fun vs σ H Q => ∃ v r, vs = v :: r ∧ t v σ H fun σ' H' => u r σ' H' Q
theorem pgs_nil : PGs X [] gNil := by
  intro pins s σ H vs us Q I r h
  obtain ⟨e, h⟩ := h
  subst e
  cases r
  exact assignInOrder_nil ⟨σ, H, I, h⟩
theorem pgs_cons {e : Expr} {es : List Expr} {t : TG} {u : TGs} (h1 : PG X e t) (h2 : PGs X es u)
    (hs : (assignEach (e :: es) X.env).map (·.2) = assign e X.env :: (assignEach es X.env).map (·.2) := by rfl) : PGs X (e :: es) (gCons t u) := by
  intro pins s σ H vs us Q I r h
  obtain ⟨v, vr, e1, h⟩ := h
  subst e1
  cases r with
  | cons r rr =>
    rw [hs]
    refine assignInOrder_cons (thn (h1 pins s σ H _ _ _ I r h) fun _ s1 ⟨σ1, H1, I1, q1⟩ => ?_)
    exact h2 pins s1 σ1 H1 _ _ Q I1 rr q1
noncomputable def gTup (K : PySem.W.Frag) (n : Nat) (t : TGs) : TG := fun v σ H Q => ∃ a xs, v = .ref a ∧ SqT K H a xs ∧ xs.length = n ∧ t xs σ H Q
theorem pg_tup {es : List Expr} {k : Nat} {t : TGs} {n : Nat} (hc : X.calm = true) (h : PGs X es t)
    (hn : (assignEach es X.env).length = n := by rfl) (hst : (assignEach es X.env).findIdx? (·.1) = none := by rfl) : PG X (.Tuple es k pos) (gTup X.K n t) := by
  intro pins s σ H v u Q I r hw
  obtain ⟨a, xs, e1, hq, hl, hw⟩ := hw
  subst e1
  cases r
  obtain ⟨its, rv, ht, hz⟩ := I.tuple hq
  refine assign_Tuple_tuple (I.ok.hd hc) ht (by simp [hn, ← hl, rv.length]) hst fun h' hx => ?_
  have I1 : Inv X pins σ H { s with heap := h' } := I.kept (t' := s.toks) fun b o e => hx b o (Nat.ne_of_lt (Heap.lt_size e)) e
  exact h pins _ σ H xs _ Q I1 (by simpa using rv) hw
noncomputable def gSub (to ti : TE) (t : TSet) : TG := fun v σ H Q => to σ H fun o H1 => ti σ H1 fun i H2 => t o i v H2 fun H3 => Q σ H3
theorem pg_sub {o i : Expr} {to ti : TE} {t : TSet} (ho : PE X o to) (hi : PE X i ti) (hs : PSet X t)
    (ha : ∀ v, assign (.Subscript o i pos) X.env v = (do
      let ov ← holding [v] (eval o X.env)
      let iv ← holding [v, ov] (eval i X.env)
      standAt pos
      holding [v, ov, iv] (setItem ov iv v)
      release [v, ov, iv] []) := by intro _; rfl) : PG X (.Subscript o i pos) (gSub to ti t) := by
  intro pins s σ H v u Q I r h
  rw [ha]
  refine wpAny_bind (wpAny_holding (thn (ho pins s σ H _ I h) fun ov s1 ⟨x, H1, I1, r1, q1⟩ => ?_))
  refine wpAny_bind (wpAny_holding (thn (hi pins s1 σ H1 _ I1 q1) fun iv s2 ⟨y, H2, I2, r2, q2⟩ => ?_))
  refine wpAny_bind (wpAny_standAt (wpAny_bind (wpAny_holding (thn (hs pins s2 σ H2 x y v ov iv u _ I2 r1 r2 r q2) fun _ s3 ⟨H3, I3, q3⟩ => ?_))))
  exact wpAny_release ⟨σ, H3, I3, q3⟩
noncomputable def tAsg (te : TE) (g : TG) : TS := fun D σ H => te σ H fun x H1 => g x σ H1 D.nx
theorem ps_asg {tg e : Expr} {te : TE} {g : TG} (he : PE X e te) (hg : PG X tg g) (hs : swapsWithSole [tg] e pos.line X.env = pure false := by rfl) (hw : swappedStores [tg] e X.env = pure none := by rfl)
    (h1 : (assignEach [tg] X.env).map (·.2) = [assign tg X.env] := by rfl) : PS X (.Assign [tg] e pos) (tAsg te g) := by
  intro pins s σ H D I h
  refine wpAny_Assign_stores (thn (he pins s σ H _ I h) fun v s1 ⟨x, H1, I1, r1, q1⟩ => ?_) hs hw
  rw [h1]
  exact thn (hg pins s1 σ H1 x v _ I1 r1 q1) fun _ s2 q => q
theorem ps_set {i : Nat} {x : Str} {e : Expr} {te : TE} {pos' : Pos} (hN : X.N.Nodup) (hi : X.N[i]? = some x) (hx : Loc X.env.scope x) (he : PE X e te) (hs : swapsWith e (some (.Name x pos')) pos.line X.env = pure false := by rfl) (hf : X.fn x = true ∨ X.env.scope.names.lookup x = some .local := by first | exact .inl rfl | exact .inr rfl | assumption) :
    PS X (.Assign [.Name x pos'] e pos) (tAsg te (gName i)) := by
  intro pins s σ H D I h
  refine wpAny_Assign_Name (thn (he pins s σ H _ I h) fun v s1 ⟨y, H1, I1, r1, q1⟩ => ?_) hs
  exact store_ok I1 hN hi hx r1 (fun s2 I2 => ⟨_, H1, I2, q1⟩) hf
noncomputable def tPar (i j : Nat) (ta : TA) : TS := fun D σ H => ta σ H fun vs H1 => ∃ v w, vs = [v, w] ∧ D.nx ((σ.set i (some v)).set j (some w)) H1
theorem ps_par {i j : Nat} {x y : Str} {a b : Expr} {ta : TA} {px py pt : Pos} {kt k2 pt2} (hc : X.calm = true) (hN : X.N.Nodup) (hi : X.N[i]? = some x) (hj : X.N[j]? = some y) (hij : i ≠ j)
    (hx : X.env.scope.names.lookup x = some .local) (hy : X.env.scope.names.lookup y = some .local) (ha : PA X [a, b] ta)
    (hw : swappedStores [.Tuple [.Name x px, .Name y py] kt pt] (.Tuple [a, b] k2 pt2) X.env = pure (some [x, y]))
    (hs : swapsWithSole [.Tuple [.Name x px, .Name y py] kt pt] (.Tuple [a, b] k2 pt2) pos.line X.env = pure false := by rfl) :
    PS X (.Assign [.Tuple [.Name x px, .Name y py] kt pt] (.Tuple [a, b] k2 pt2) pos) (tPar i j ta) := by
  intro pins s σ H D I h
  rw [exec_Assign_arm]
  refine wpAny_bind (wpAny_standAt ?_)
  rw [hs]
  refine wpAny_bind (wpAny_pure ?_)
  rw [if_neg (by decide)]
  refine wpAny_bind (Tuple_ (thn (ha _ pins s σ H _ I h) fun us s1 ⟨vs, H1, I1, r1, q1⟩ => ?_))
  obtain ⟨v, w, e1, q1⟩ := q1
  subst e1
  obtain ⟨u1, u2, rfl, rv, rw'⟩ : ∃ u1 u2, us = [u1, u2] ∧ RelV v u1 ∧ RelV w u2 := by
    cases r1 with
    | cons p q =>
      cases q with
      | cons p' q' =>
        cases q'
        exact ⟨_, _, rfl, p, p'⟩
  refine wpAny_newObj_type ?_ (by show 2 ≤ sizeLine; decide)
  have I2 : Inv X pins σ H1 { s1 with heap := s1.heap.push { cls := .type "tuple", data := .seq [u1, u2].toArray } } := I1.kept (t' := s1.toks) fun b o e => Heap.get?_push_of_some _ e
  rw [hw]
  refine wpAny_bind (wpAny_pure ?_)
  show wpAny (model X.prog X.w) X.A (do rule "assign.swapped-stores"; let items ← unpackItems (.ref s1.heap.objs.size) 2 none; assignInOrder [fun v => bindName X.env y v, fun v => bindName X.env x v] items.reverse; pure Flow.next) _ _ _
  refine wpAny_bind (wpAny_rule (wpAny_bind (unpackItems_tuple (items := #[u1, u2]) (I.ok.hd hc) (IsTup.new s1.heap _) fun h' hx' => ?_)))
  have I3 := I2.kept (h' := h') (t' := s1.toks) fun b o e => hx' b o (Nat.ne_of_lt (Heap.lt_size e)) e
  show wpAny _ _ (assignInOrder [fun v => bindName X.env y v, fun v => bindName X.env x v] [u2, u1] >>= fun _ => pure Flow.next) _ _ _
  refine wpAny_bind (assignInOrder_cons (wpAny_bindName (store_ok I3 hN hj (.inl hy) rw' (fun s2 I4 => ?_) (.inr hy))))
  refine assignInOrder_cons (wpAny_bindName (store_ok I4 hN hi (.inl hx) rv (fun s3 I5 => assignInOrder_nil (wpAny_pure ?_)) (.inr hx)))
  rw [List.set_comm _ _ (Ne.symm hij)] at I5
  exact ⟨_, H1, I5, q1⟩
end
section
variable {X : Cx} {pos : Pos}
noncomputable def tWhile (c : TT) (tb : TS) : TS := fun D σ H => ∃ W : Nat → St → Hp → Prop, (∃ m, W m σ H) ∧ ∀ m σ H, W m σ H →
  c σ H fun b H1 => if b = true then ∃ N : St → Hp → Prop, (∀ σ' H', N σ' H' → ∃ m', m' < m ∧ W m' σ' H') ∧ tb { D with nx := N, ct := N, bk := D.nx } σ H1 else D.nx σ H1
theorem ps_while {c : Expr} {body : List Stmt} {tc : TT} {tb : TS} (hp : PassesOwn (model X.prog X.w) X.A X.env X.xe) (hc : PT X c tc) (hb : PSs X body tb) : PS X (.While c body [] pos) (tWhile tc tb) := by
  intro pins s σ H D I h
  obtain ⟨W, ⟨m0, w0⟩, turn⟩ := h
  refine wpAny_While (codeAny_whileLoop (fun n s' => ∃ σ' H', Inv X pins σ' H' s' ∧ W n σ' H') ?_ m0 ⟨σ, H, I, w0⟩)
  rintro n s1 ⟨σ1, H1, I1, w1⟩
  refine wpAny_passesOwn hp (thn (hc pins s1 σ1 H1 _ I1 (turn n σ1 H1 w1)) fun b s2 ⟨H2, I2, q2⟩ => ?_)
  cases b with
  | true =>
    obtain ⟨N, hN, q2⟩ := q2
    rw [if_pos rfl]
    refine wpAny_passesOwn hp (thn (hb pins s2 σ1 H2 _ I2 q2) fun f s3 q3 => ?_)
    cases f with
    | next =>
      obtain ⟨σ3, H3, I3, n3⟩ := q3
      obtain ⟨m', hm, w3⟩ := hN σ3 H3 n3
      exact ⟨m', hm, σ3, H3, I3, w3⟩
    | cont =>
      obtain ⟨σ3, H3, I3, n3⟩ := q3
      obtain ⟨m', hm, w3⟩ := hN σ3 H3 n3
      exact ⟨m', hm, σ3, H3, I3, w3⟩
    | brk => exact q3
    | ret v => exact q3
  | false =>
    rw [if_neg Bool.false_ne_true]
    exact wpAny_execs_nil ⟨σ1, H2, I2, q2⟩
end
structure It where
  go : Nat → Hp → Prop
  yld : Nat → Hp → V → Hp → Prop
  stop : Nat → Hp → Prop
noncomputable def FpOk (X : Cx) (pins : List (Addr × Obj)) (H : Hp) (b : Addr) : Prop :=
  H b = none ∧ b ≠ X.env.locals ∧ b ∉ X.fs ∧ (b ∈ X.ex ∨ X.s₀.heap.objs.size ≤ b) ∧ (∀ x c, X.env.cells.lookup x = some c → c ≠ b) ∧ ∀ p ∈ X.pn ++ pins, p.1 ≠ b
theorem Inv.fpOk {X : Cx} {pins : List (Addr × Obj)} {σ : St} {H H' : Hp} {s : Shared} {b : Addr} (I : Inv X pins σ H s) (hb : s.heap.objs.size ≤ b) (hn : H' b = none) : FpOk X pins H' b := by
  refine ⟨hn, Nat.ne_of_gt (Nat.lt_of_lt_of_le I.lt hb), I.nofs hb, .inr (Nat.le_trans I.sz hb), fun x c e z => ?_, fun p hp z => ?_⟩
  · obtain ⟨v, q⟩ := I.cell x c e
    exact absurd (Nat.lt_of_lt_of_le q.lt (by rw [z]; exact hb)) (Nat.lt_irrefl _)
  · exact absurd (Nat.lt_of_lt_of_le (Heap.lt_size (I.pin p hp).1) (by rw [z]; exact hb)) (Nat.lt_irrefl _)
structure Turn (P : Program) (w : World) (K : PySem.W.Frag) (tg : Expr) (J : It) (fp : List Addr) (it : Addr) (tn : Nat → Heap → Prop) : Prop where
  mem : it ∈ fp
  obj : ∀ i h, tn i h → ∀ b ∈ fp, ∃ o, h.get? b = some o ∧ ∀ v, o.data ≠ .cell v
  keep : ∀ i h h', tn i h → (∀ b ∈ fp, ∀ o, h.get? b = some o → h'.get? b = some o) → tn i h'
  item : ∀ (X : Cx), X.prog = P → X.w = w → X.K = K → X.calm = true → ∀ (i : Nat) (pins : List (Addr × Obj)) (s : Shared) (σ : St) (H : Hp) (E : Value → Shared → Prop), Inv X pins σ H s → (∀ b ∈ fp, FpOk X pins H b) → tn i s.heap → J.go i H →
    wpAny (model P w) X.A (pyNext (.ref it)) (fun r s1 => ∃ u, r = some u ∧
      wpAny (model P w) X.A (letOwnedTupleGo tg (.ref it) u) (fun _ s2 => ∃ x H', Inv X pins σ H' s2 ∧ RelV x u ∧ J.yld i H x H' ∧ tn (i + 1) s2.heap ∧ ∀ b ∈ fp, H' b = none) E s1) E s
  done : ∀ (X : Cx), X.prog = P → X.w = w → X.K = K → X.calm = true → ∀ (i : Nat) (pins : List (Addr × Obj)) (s : Shared) (σ : St) (H : Hp) (E : Value → Shared → Prop), Inv X pins σ H s → (∀ b ∈ fp, FpOk X pins H b) → tn i s.heap → J.stop i H →
    wpAny (model P w) X.A (pyNext (.ref it)) (fun r s1 => r = none ∧ Inv X pins σ H s1) E s
  self : ∀ (A : Around) (i : Nat) (s : Shared) (Q : Value → Shared → Prop) (E : Value → Shared → Prop), tn i s.heap → Q (.ref it) s → wpAny (model P w) A (pyIter (.ref it)) Q E s
noncomputable abbrev TI := St → Hp → (It → Hp → Prop) → Prop
noncomputable def PIE (X : Cx) (pins : List (Addr × Obj)) (σ : St) (tg : Expr) (R : It → Hp → Prop) (itv : Value) (s2 : Shared) : Prop :=
  ∃ (it : Addr) (fp : List Addr) (tn : Nat → Heap → Prop) (J : It) (H' : Hp), itv = .ref it ∧ Inv X pins σ H' s2 ∧ Turn X.prog X.w X.K tg J fp it tn ∧ tn 0 s2.heap ∧ (∀ b ∈ fp, FpOk X pins H' b) ∧ R J H'
noncomputable def PI (X : Cx) (tg iter : Expr) (wi : TI) : Prop :=
  ∀ (pins : List (Addr × Obj)) (s : Shared) (σ : St) (H : Hp) (R : It → Hp → Prop), Inv X pins σ H s → wi σ H R →
    wpAny (model X.prog X.w) X.A (eval iter X.env) (fun v s1 => wpAny (model X.prog X.w) X.A (pyIter v) (PIE X pins σ tg R) X.xe s1) X.xe s
theorem go_of {M : Model} {A : Around} {E : Value → Shared → Prop} {s : Shared} {tg : Expr} {it : Addr} {u : Value} {o : Obj} {n : String} {vs : Array Value} {Q : Unit → Shared → Prop} (ho : s.heap.get? it = some o) (hc : o.cls = .type n) (hd : o.data = .fields vs)
    (hn : ["enumerate", "zip", "dict_itemiterator", "dict_reverseitemiterator", "odict_iterator", "itertools.zip_longest", "itertools.pairwise"].contains n = false) (hQ : Q () s) : wpAny M A (letOwnedTupleGo tg (.ref it) u) Q E s := by
  unfold letOwnedTupleGo
  cases tg <;> first
    | exact wpAny_pure hQ
    | (cases u <;> first
        | exact wpAny_pure hQ
        | (refine wpAny_bind (wpAny_load ho ?_)
           rw [hc, hd]
           show wpAny M A (if (["enumerate", "zip", "dict_itemiterator", "dict_reverseitemiterator", "odict_iterator", "itertools.zip_longest", "itertools.pairwise"].contains n && vs[0]? == some (rawInt _)) = true then _ else _) Q E s
           rw [if_neg (by intro h; rw [hn, Bool.false_and] at h; cases h)]
           exact wpAny_pure hQ))
noncomputable def Itl (K : PySem.W.Frag) (a : Addr) : It :=
  ⟨fun i H => ∃ xs x, SqL K H a xs ∧ xs[i]? = some x, fun i H x H' => H' = H ∧ ∀ xs, SqL K H a xs → xs[i]? = some x, fun i H => ∃ xs, SqL K H a xs ∧ xs.length ≤ i⟩
noncomputable def Itt (K : PySem.W.Frag) (a : Addr) : It :=
  ⟨fun i H => ∃ xs x, SqT K H a xs ∧ xs[i]? = some x, fun i H x H' => H' = H ∧ ∀ xs, SqT K H a xs → xs[i]? = some x, fun i H => ∃ xs, SqT K H a xs ∧ xs.length ≤ i⟩
noncomputable def Itr (lo : Int) (n : Nat) : It := ⟨fun i _ => i < n, fun i H x H' => H' = H ∧ x = .int (lo + i), fun i _ => n ≤ i⟩
theorem turn_list {P : Program} {w : World} {K : PySem.W.Frag} {tg : Expr} (a it : Addr) : Turn P w K tg (Itl K a) [it] it (fun i h => h.IsListIter it a i) where
  mem := by simp
  obj := fun i h st b hb => by
    have e : b = it := by simpa using hb
    subst e
    obtain ⟨o, e, c, d⟩ := st
    exact ⟨o, e, fun v z => by rw [d] at z; cases z⟩
  keep := fun i h h' st k => st.at fun o e => k it (by simp) o e
  item := by
    intro X hP hw hK hc i pins s σ H E I hf st hg
    subst hP hw hK
    obtain ⟨xs, x, hq, hx⟩ := hg
    obtain ⟨its, rv, p, hz⟩ := I.list hq
    obtain ⟨u, hu, ru⟩ := rv.get hx
    obtain ⟨f0, f1, f2, f3, f4, f5⟩ := hf it (by simp)
    refine wpAny_pyNext_list_item st p.isList (x := u) (by simpa using hu) fun h' st' sb => ?_
    have I1 : Inv X pins σ H { s with heap := h' } := I.turned (t' := s.toks) (fun b o hb e => (sb.2 b hb).trans e) f0 f1 f3 f4 f5
    obtain ⟨o, e, c, d⟩ := id st'
    exact ⟨u, rfl, go_of (s := { s with heap := h' }) e c d (by decide) ⟨x, H, I1, ru, ⟨rfl, fun ys hy => by rw [I.list_inj hy hq]; exact hx⟩, st', fun b hb => (hf b hb).1⟩⟩
  done := by
    intro X hP hw hK hc i pins s σ H E I hf st hg
    subst hP hw hK
    obtain ⟨xs, hq, hx⟩ := hg
    obtain ⟨its, rv, p, hz⟩ := I.list hq
    obtain ⟨f0, f1, f2, f3, f4, f5⟩ := hf it (by simp)
    have hl := rv.length
    exact wpAny_pyNext_list_end (I.ok.hd hc) st p.isList (by simp; (first | lia | omega)) fun h' eb => ⟨rfl, I.turned (t' := s.toks) (fun b o hb e => eb b o hb e) f0 f1 f3 f4 f5⟩
  self := fun _ _ _ _ _ st h => wpAny_pyIter_listiter st h
theorem turn_tuple {P : Program} {w : World} {K : PySem.W.Frag} {tg : Expr} (a it : Addr) : Turn P w K tg (Itt K a) [it] it (fun i h => h.IsTupleIter it a i) where
  mem := by simp
  obj := fun i h st b hb => by
    have e : b = it := by simpa using hb
    subst e
    obtain ⟨o, e, c, d⟩ := st
    exact ⟨o, e, fun v z => by rw [d] at z; cases z⟩
  keep := fun i h h' st k => st.at fun o e => k it (by simp) o e
  item := by
    intro X hP hw hK hc i pins s σ H E I hf st hg
    subst hP hw hK
    obtain ⟨xs, x, hq, hx⟩ := hg
    obtain ⟨its, rv, p, hz⟩ := I.tuple hq
    obtain ⟨u, hu, ru⟩ := rv.get hx
    obtain ⟨f0, f1, f2, f3, f4, f5⟩ := hf it (by simp)
    refine wpAny_pyNext_tuple_item st (show s.heap.IsTuple a its.toArray from p) (x := u) (by simpa using hu) fun h' st' sb => ?_
    have I1 : Inv X pins σ H { s with heap := h' } := I.turned (t' := s.toks) (fun b o hb e => (sb.2 b hb).trans e) f0 f1 f3 f4 f5
    obtain ⟨o, e, c, d⟩ := id st'
    exact ⟨u, rfl, go_of (s := { s with heap := h' }) e c d (by decide) ⟨x, H, I1, ru, ⟨rfl, fun ys hy => by rw [I.tuple_inj hy hq]; exact hx⟩, st', fun b hb => (hf b hb).1⟩⟩
  done := by
    intro X hP hw hK hc i pins s σ H E I hf st hg
    subst hP hw hK
    obtain ⟨xs, hq, hx⟩ := hg
    obtain ⟨its, rv, p, hz⟩ := I.tuple hq
    obtain ⟨f0, f1, f2, f3, f4, f5⟩ := hf it (by simp)
    have hl := rv.length
    exact wpAny_pyNext_tuple_end (I.ok.hd hc) st (show s.heap.IsTuple a its.toArray from p) (by simp; (first | lia | omega)) fun h' eb => ⟨rfl, I.turned (t' := s.toks) (fun b o hb e => eb b o hb e) f0 f1 f3 f4 f5⟩
  self := fun _ _ _ _ _ st h => wpAny_pyIter_tupleiter st h
theorem turn_range {P : Program} {w : World} {K : PySem.W.Frag} {tg : Expr} (it : Addr) (lo : Int) (n : Nat) : Turn P w K tg (Itr lo n) [it] it (fun i h => IsRangeIter h it (lo + (i : Nat) * 1) ((n : Int) - (i : Nat)) 1) where
  mem := by simp
  obj := fun i h st b hb => by
    have e : b = it := by simpa using hb
    subst e
    exact ⟨_, st, fun v z => by
      have z' : Data.fields _ = Data.cell v := z
      cases z'⟩
  keep := fun i h h' st k => k it (by simp) _ st
  item := by
    intro X hP hw hK hc i pins s σ H E I hf st hg
    subst hP hw hK
    obtain ⟨f0, f1, f2, f3, f4, f5⟩ := hf it (by simp)
    have W := Walks.range (prog := X.prog) (w := X.w) (I.ok.hd hc) it lo 1 n
    refine W.item i s _ _ hg st fun v h' tk hv st' kk => ?_
    obtain ⟨t, rfl⟩ := hv
    have I1 : Inv X pins σ H { s with heap := h', toks := tk } := I.turned (fun b o hb e => kk b o (by simpa using hb) e) f0 f1 f3 f4 f5
    refine ⟨_, rfl, go_of (s := { s with heap := h', toks := tk }) (n := "range_iterator") st' rfl rfl (by decide) ⟨.int (lo + i), H, I1, ⟨t, ?_⟩, ⟨rfl, rfl⟩, st', fun b hb => (hf b hb).1⟩⟩
    rw [Int.mul_one]
  done := by
    intro X hP hw hK hc i pins s σ H E I hf st hg
    subst hP hw hK
    obtain ⟨f0, f1, f2, f3, f4, f5⟩ := hf it (by simp)
    exact wpAny_pyNext_range_end (I.ok.hd hc) st (by have : n ≤ i := hg; (first | lia | omega)) fun h' eb => ⟨rfl, I.turned (t' := s.toks) (fun b o hb e => eb b o hb e) f0 f1 f3 f4 f5⟩
  self := fun _ _ _ _ _ st h => wpAny_pyIter_rangeiter st h
end L2
namespace L2
open PySem PySem.Spec PyProof.Rows
section
variable {X : Cx} {tg : Expr}
noncomputable def iList (K : PySem.W.Frag) (tl : TE) : TI := fun σ H R => tl σ H fun x H1 => ∃ a, x = .ref a ∧ (∃ xs, SqL K H1 a xs) ∧ R (Itl K a) H1
noncomputable def iTup (K : PySem.W.Frag) (tl : TE) : TI := fun σ H R => tl σ H fun x H1 => ∃ a, x = .ref a ∧ (∃ xs, SqT K H1 a xs) ∧ R (Itt K a) H1
theorem pi_list {l : Expr} {tl : TE} (hl : PE X l tl) : PI X tg l (iList X.K tl) := by
  intro pins s σ H R I h
  refine thn (hl pins s σ H _ I h) fun v s1 ⟨x, H1, I1, r1, q1⟩ => ?_
  obtain ⟨a, e, ⟨xs, hq⟩, q⟩ := q1
  subst e
  cases r1
  obtain ⟨its, rv, p, hz⟩ := I1.list hq
  refine wpAny_pyIter_list p.isList ?_
  refine ⟨s1.heap.objs.size, [s1.heap.objs.size], _, _, H1, rfl, I1.kept (t' := s1.toks) fun b o e => Heap.get?_push_of_some _ e, turn_list a _, ⟨_, Heap.get?_push_size _ rfl, rfl, rfl⟩, fun b hb => ?_, q⟩
  have e : b = s1.heap.objs.size := by simpa using hb
  subst e
  exact I1.fpOk (Nat.le_refl _) (I1.hok.fresh (Nat.le_refl _))
theorem pi_tup {l : Expr} {tl : TE} (hl : PE X l tl) : PI X tg l (iTup X.K tl) := by
  intro pins s σ H R I h
  refine thn (hl pins s σ H _ I h) fun v s1 ⟨x, H1, I1, r1, q1⟩ => ?_
  obtain ⟨a, e, ⟨xs, hq⟩, q⟩ := q1
  subst e
  cases r1
  obtain ⟨its, rv, p, hz⟩ := I1.tuple hq
  refine wpAny_pyIter_tuple (show s1.heap.IsTuple a its.toArray from p) ?_
  refine ⟨s1.heap.objs.size, [s1.heap.objs.size], _, _, H1, rfl, I1.kept (t' := s1.toks) fun b o e => Heap.get?_push_of_some _ e, turn_tuple a _, ⟨_, Heap.get?_push_size _ rfl, rfl, rfl⟩, fun b hb => ?_, q⟩
  have e : b = s1.heap.objs.size := by simpa using hb
  subst e
  exact I1.fpOk (Nat.le_refl _) (I1.hok.fresh (Nat.le_refl _))
theorem range_it {pins : List (Addr × Obj)} {σ : St} {H : Hp} {s : Shared} {R : It → Hp → Prop} {E : Value → Shared → Prop} {lo hi : Int} {t u v : Tok} {tk : Nat} (I : Inv X pins σ H s) (h1 : -(2 ^ 62) ≤ lo) (h2 : lo < 2 ^ 62) (h3 : -(2 ^ 62) ≤ hi) (h4 : hi < 2 ^ 62)
    (q : R (Itr lo (hi - lo).toNat) H) : wpAny (model X.prog X.w) X.A (pyIter (.ref s.heap.objs.size)) (PIE X pins σ tg R) E { s with heap := s.heap.push { cls := .type "range", data := .fields #[.int lo t, .int hi u, .int 1 v] }, toks := tk } := by
  refine wpAny_pyIter_range (IsRange.new ..) (small_one h1 h2 h3 h4) ?_
  have I1 : Inv X pins σ H { s with heap := s.heap.push { cls := .type "range", data := .fields #[.int lo t, .int hi u, .int 1 v] }, toks := tk } := I.kept fun b o e => Heap.get?_push_of_some _ e
  refine ⟨(s.heap.push { cls := .type "range", data := .fields #[.int lo t, .int hi u, .int 1 v] }).objs.size, [(s.heap.push { cls := .type "range", data := .fields #[.int lo t, .int hi u, .int 1 v] }).objs.size], _, _, H, rfl,
    I1.kept (t' := tk) fun b o e => Heap.get?_push_of_some _ e, turn_range _ lo (hi - lo).toNat, ?_, fun b hb => ?_, q⟩
  · have e1 : lo + ((0 : Nat) : Int) * 1 = lo := by simp
    have e2 : (((hi - lo).toNat : Nat) : Int) - ((0 : Nat) : Int) = Builtin.Range.rangeSize lo hi 1 := by rw [rangeSize_one]; split <;> (first | lia | omega)
    show IsRangeIter _ _ (lo + ((0 : Nat) : Int) * 1) ((((hi - lo).toNat : Nat) : Int) - ((0 : Nat) : Int)) 1
    rw [e1, e2]
    exact Heap.get?_push_size _ rfl
  · have e : b = (s.heap.push { cls := .type "range", data := .fields #[.int lo t, .int hi u, .int 1 v] }).objs.size := by simpa using hb
    subst e
    exact I1.fpOk (Nat.le_refl _) (I1.hok.fresh (Nat.le_refl _))
noncomputable def iRng1 (ta : TA) : TI := fun σ H R => ta σ H fun vs H1 => ∃ j : Int, vs = [.int j] ∧ -(2 ^ 62) ≤ j ∧ j < 2 ^ 62 ∧ R (Itr 0 j.toNat) H1
theorem pi_range1 {a : Expr} {ta : TA} {p pos : Pos} (hg : Gl X "range") (hm : X.mg "range" = none) (ha : PA X [a] ta) (hs : starEach [a] X.env = [(false, eval a X.env)] := by rfl) : PI X tg (.Call (.Name "range" p) [a] [] pos) (iRng1 ta) := by
  intro pins s σ H R I h
  refine Call_ (ld_blt I hg hm boot_range (PyProof.Rows.callWith_type1 (thn (ha pos pins s σ H _ I h) fun us s1 ⟨vs, H1, I1, r1, q1⟩ => ?_) hs rfl))
  obtain ⟨j, e, q1, q2, q⟩ := q1
  subst e
  cases r1 with
  | cons r rr =>
    cases rr
    obtain ⟨t, rfl⟩ := r
    exact call_range_1 (range_it I1 (by (first | lia | omega)) (by (first | lia | omega)) q1 q2 (by simpa using q))
noncomputable def tFor (wi : TI) (g : TG) (tb : TS) : TS := fun D σ H => wi σ H fun J H1 => ∃ W : Nat → Nat → St → Hp → Prop, (∃ m, W 0 m σ H1) ∧ ∀ i m σ H, W i m σ H →
  (J.stop i H ∧ D.nx σ H) ∨ (J.go i H ∧ ∃ N : St → Hp → Prop, (∀ σ' H', N σ' H' → ∃ m', m' < m ∧ W (i + 1) m' σ' H') ∧ ∀ x H', J.yld i H x H' → g x σ H' fun σ2 H2 => tb { D with nx := N, ct := N, bk := D.nx } σ2 H2)
noncomputable def pinsAt (fp : List Addr) (h : Heap) : List (Addr × Obj) := fp.filterMap fun b => (h.get? b).map fun o => (b, o)
theorem mem_pinsAt {fp : List Addr} {h : Heap} {b : Addr} {o : Obj} (hb : b ∈ fp) (e : h.get? b = some o) : (b, o) ∈ pinsAt fp h := List.mem_filterMap.mpr ⟨b, hb, by rw [e]; rfl⟩
theorem of_pinsAt {fp : List Addr} {h : Heap} {p : Addr × Obj} (hp : p ∈ pinsAt fp h) : p.1 ∈ fp ∧ h.get? p.1 = some p.2 := by
  obtain ⟨b, hb, e⟩ := List.mem_filterMap.mp hp
  cases q : h.get? b with
  | none => rw [q] at e; cases e
  | some o =>
    rw [q] at e
    have e' : (b, o) = p := Option.some.inj e
    subst e'
    exact ⟨hb, q⟩
theorem Inv.pinned {pins : List (Addr × Obj)} {σ : St} {H : Hp} {s : Shared} {fp : List Addr} (I : Inv X pins σ H s) (hf : ∀ b ∈ fp, FpOk X pins H b) (ho : ∀ b ∈ fp, ∃ o, s.heap.get? b = some o ∧ ∀ v, o.data ≠ .cell v) : Inv X (pins ++ pinsAt fp s.heap) σ H s :=
  I.pins_of fun p hp => (List.mem_append.mp hp).elim (fun z => I.pin p (List.mem_append_right _ z)) fun z => by
    obtain ⟨hb, e⟩ := of_pinsAt z
    obtain ⟨f0, f1, f2, _⟩ := hf p.1 hb
    obtain ⟨o, e', d⟩ := ho p.1 hb
    rw [e] at e'; cases e'
    exact ⟨e, f0, f1, f2, d⟩
theorem Inv.unpinned {pins pl : List (Addr × Obj)} {σ : St} {H : Hp} {s : Shared} (I : Inv X (pins ++ pl) σ H s) : Inv X pins σ H s := I.pins_of fun p hp => I.pin p (List.mem_append_right _ (List.mem_append_left _ hp))
theorem ps_for {iter : Expr} {body : List Stmt} {wi : TI} {g : TG} {tb : TS} {pos : Pos} (hp : PassesOwn (model X.prog X.w) X.A X.env X.xe) (hc : X.calm = true) (hi : PI X tg iter wi) (hg : PG X tg g) (hb : PSs X body tb)
    (hs : ∀ x, foldedSetIterable iter X.env x = pure x := by intro _; rfl) : PS X (.For tg iter body [] pos) (tFor wi g tb) := by
  intro pins s σ H D I h
  refine wpAny_For (thn (hi pins s σ H _ I h) fun v s1 h1 => thn h1 fun itv s2 h2 => ?_) hs
  obtain ⟨it, fp, tn, J, H2, e, I2, T, st2, f2, W, ⟨m0, w0⟩, turn⟩ := h2
  subst e
  -- what stays true of the iterator's objects through the loop
  have stat : ∀ {H' : Hp}, (∀ b ∈ fp, H' b = none) → ∀ b ∈ fp, FpOk X pins H' b := fun hn b hb => ⟨hn b hb, (f2 b hb).2⟩
  refine codeAny_forLoop_any (fun n s' => ∃ i σ' H', Inv X pins σ' H' s' ∧ tn i s'.heap ∧ (∀ b ∈ fp, H' b = none) ∧ W i n σ' H') ?_ m0 ⟨0, σ, H2, I2, st2, fun b hb => (f2 b hb).1, w0⟩
  rintro n s3 ⟨i, σ3, H3, I3, st3, fr3, w3⟩
  rcases turn i n σ3 H3 w3 with ⟨stop, qn⟩ | ⟨go, N, hN, step⟩
  · refine wpAny_passesOwn hp (thn (T.done X rfl rfl rfl hc i pins s3 σ3 H3 X.xe I3 (stat fr3) st3 stop) fun r s4 ⟨hr, I4⟩ => ?_)
    subst hr
    exact wpAny_execs_nil ⟨σ3, H3, I4, qn⟩
  · refine wpAny_passesOwn hp (thn (T.item X rfl rfl rfl hc i pins s3 σ3 H3 X.xe I3 (stat fr3) st3 go) fun r s4 ⟨u, hr, h4⟩ => ?_)
    subst hr
    refine wpAny_passesOwn hp (thn h4 fun _ s5 ⟨x, H5, I5, r5, y5, st5, fr5⟩ => ?_)
    have I5' := I5.pinned (stat fr5) (T.obj _ _ st5)
    refine wpAny_passesOwn hp (thn (hg _ s5 σ3 H5 x u _ I5' r5 (step x H5 y5)) fun _ s6 ⟨σ6, H6, I6, q6⟩ => ?_)
    refine wpAny_passesOwn hp (thn (hb _ s6 σ6 H6 _ I6 q6) fun f s7 q7 => ?_)
    have again : ∀ {σ7 : St} {H7 : Hp}, Inv X (pins ++ pinsAt fp s5.heap) σ7 H7 s7 → N σ7 H7 → ∃ m, m < n ∧ ∃ i σ' H', Inv X pins σ' H' s7 ∧ tn i s7.heap ∧ (∀ b ∈ fp, H' b = none) ∧ W i m σ' H' := fun {σ7 H7} I7 n7 => by
      obtain ⟨m', hm, w7⟩ := hN σ7 H7 n7
      refine ⟨m', hm, i + 1, σ7, H7, I7.unpinned, T.keep _ _ _ st5 fun b hb o e => (I7.pin (b, o) (List.mem_append_right _ (List.mem_append_right _ (mem_pinsAt hb e)))).1, fun b hb => ?_, w7⟩
      obtain ⟨o, e, d⟩ := T.obj _ _ st5 b hb
      exact (I7.pin (b, o) (List.mem_append_right _ (List.mem_append_right _ (mem_pinsAt hb e)))).2.1
    cases f with
    | next => obtain ⟨σ7, H7, I7, n7⟩ := q7; exact again I7 n7
    | cont => obtain ⟨σ7, H7, I7, n7⟩ := q7; exact again I7 n7
    | brk => obtain ⟨σ7, H7, I7, q7⟩ := q7; exact ⟨σ7, H7, I7.unpinned, q7⟩
    | ret v => obtain ⟨x7, σ7, H7, I7, r7, q7⟩ := q7; exact ⟨x7, σ7, H7, I7.unpinned, r7, q7⟩
end
theorem for_list {K : PySem.W.Frag} {a : Addr} {xs : List V} {g : TG} {tb : TS} {D : Ends} {σ : St} {H : Hp} (Pv : Nat → St → Hp → Prop) (h0 : Pv 0 σ H) (hl : ∀ i σ H, i ≤ xs.length → Pv i σ H → SqL K H a xs)
    (hs : ∀ i x σ H, xs[i]? = some x → Pv i σ H → g x σ H fun σ2 H2 => tb { D with nx := Pv (i + 1), ct := Pv (i + 1), bk := D.nx } σ2 H2) (hd : ∀ σ H, Pv xs.length σ H → D.nx σ H) :
    ∃ W : Nat → Nat → St → Hp → Prop, (∃ m, W 0 m σ H) ∧ ∀ i m σ H, W i m σ H →
      ((Itl K a).stop i H ∧ D.nx σ H) ∨ ((Itl K a).go i H ∧ ∃ N : St → Hp → Prop, (∀ σ' H', N σ' H' → ∃ m', m' < m ∧ W (i + 1) m' σ' H') ∧ ∀ x H', (Itl K a).yld i H x H' → g x σ H' fun σ2 H2 => tb { D with nx := N, ct := N, bk := D.nx } σ2 H2) := by
  refine ⟨fun i m σ H => m = xs.length - i ∧ i ≤ xs.length ∧ Pv i σ H, ⟨xs.length, by simp, Nat.zero_le _, h0⟩, ?_⟩
  rintro i m σ H ⟨rfl, hi, p⟩
  have q := hl i σ H hi p
  by_cases hlt : i < xs.length
  · refine .inr ⟨⟨xs, xs[i], q, by simp [hlt]⟩, Pv (i + 1), fun σ' H' p' => ⟨xs.length - (i + 1), by (first | lia | omega), rfl, hlt, p'⟩, fun x H' y => ?_⟩
    obtain ⟨e, y⟩ := y
    subst e
    exact hs i x σ _ (y xs q) p
  · have e : i = xs.length := by (first | lia | omega)
    subst e
    exact .inl ⟨⟨xs, q, Nat.le_refl _⟩, hd σ H p⟩
theorem for_tup {K : PySem.W.Frag} {a : Addr} {xs : List V} {g : TG} {tb : TS} {D : Ends} {σ : St} {H : Hp} (Pv : Nat → St → Hp → Prop) (h0 : Pv 0 σ H) (hl : ∀ i σ H, i ≤ xs.length → Pv i σ H → SqT K H a xs)
    (hs : ∀ i x σ H, xs[i]? = some x → Pv i σ H → g x σ H fun σ2 H2 => tb { D with nx := Pv (i + 1), ct := Pv (i + 1), bk := D.nx } σ2 H2) (hd : ∀ σ H, Pv xs.length σ H → D.nx σ H) :
    ∃ W : Nat → Nat → St → Hp → Prop, (∃ m, W 0 m σ H) ∧ ∀ i m σ H, W i m σ H →
      ((Itt K a).stop i H ∧ D.nx σ H) ∨ ((Itt K a).go i H ∧ ∃ N : St → Hp → Prop, (∀ σ' H', N σ' H' → ∃ m', m' < m ∧ W (i + 1) m' σ' H') ∧ ∀ x H', (Itt K a).yld i H x H' → g x σ H' fun σ2 H2 => tb { D with nx := N, ct := N, bk := D.nx } σ2 H2) := by
  refine ⟨fun i m σ H => m = xs.length - i ∧ i ≤ xs.length ∧ Pv i σ H, ⟨xs.length, by simp, Nat.zero_le _, h0⟩, ?_⟩
  rintro i m σ H ⟨rfl, hi, p⟩
  have q := hl i σ H hi p
  by_cases hlt : i < xs.length
  · refine .inr ⟨⟨xs, xs[i], q, by simp [hlt]⟩, Pv (i + 1), fun σ' H' p' => ⟨xs.length - (i + 1), by (first | lia | omega), rfl, hlt, p'⟩, fun x H' y => ?_⟩
    obtain ⟨e, y⟩ := y
    subst e
    exact hs i x σ _ (y xs q) p
  · have e : i = xs.length := by (first | lia | omega)
    subst e
    exact .inl ⟨⟨xs, q, Nat.le_refl _⟩, hd σ H p⟩
theorem for_range {lo : Int} {n : Nat} {g : TG} {tb : TS} {D : Ends} {σ : St} {H : Hp} (Pv : Nat → St → Hp → Prop) (h0 : Pv 0 σ H)
    (hs : ∀ i σ H, i < n → Pv i σ H → g (.int (lo + i)) σ H fun σ2 H2 => tb { D with nx := Pv (i + 1), ct := Pv (i + 1), bk := D.nx } σ2 H2) (hd : ∀ σ H, Pv n σ H → D.nx σ H) :
    ∃ W : Nat → Nat → St → Hp → Prop, (∃ m, W 0 m σ H) ∧ ∀ i m σ H, W i m σ H →
      ((Itr lo n).stop i H ∧ D.nx σ H) ∨ ((Itr lo n).go i H ∧ ∃ N : St → Hp → Prop, (∀ σ' H', N σ' H' → ∃ m', m' < m ∧ W (i + 1) m' σ' H') ∧ ∀ x H', (Itr lo n).yld i H x H' → g x σ H' fun σ2 H2 => tb { D with nx := N, ct := N, bk := D.nx } σ2 H2) := by
  refine ⟨fun i m σ H => m = n - i ∧ i ≤ n ∧ Pv i σ H, ⟨n, by simp, Nat.zero_le _, h0⟩, ?_⟩
  rintro i m σ H ⟨rfl, hi, p⟩
  by_cases hlt : i < n
  · refine .inr ⟨hlt, Pv (i + 1), fun σ' H' p' => ⟨n - (i + 1), by (first | lia | omega), rfl, hlt, p'⟩, fun x H' y => ?_⟩
    obtain ⟨e, y⟩ := y
    subst e y
    exact hs i σ _ hlt p
  · have e : i = n := by (first | lia | omega)
    subst e
    exact .inl ⟨Nat.le_refl _, hd σ H p⟩
theorem while_by {c : TT} {tb : TS} {D : Ends} {σ : St} {H : Hp} (Pv : St → Hp → Prop) (μ : St → Hp → Nat) (h0 : Pv σ H)
    (hs : ∀ σ H, Pv σ H → c σ H fun b H1 => if b = true then tb { D with nx := fun σ' H' => Pv σ' H' ∧ μ σ' H' < μ σ H, ct := fun σ' H' => Pv σ' H' ∧ μ σ' H' < μ σ H, bk := D.nx } σ H1 else D.nx σ H1)
    (mono : ∀ σ H Q Q', (∀ b H1, Q b H1 → Q' b H1) → c σ H Q → c σ H Q') : tWhile c tb D σ H := by
  refine ⟨fun m σ H => m = μ σ H ∧ Pv σ H, ⟨_, rfl, h0⟩, ?_⟩
  rintro m σ H ⟨rfl, p⟩
  refine mono σ H _ _ (fun b H1 q => ?_) (hs σ H p)
  cases b with
  | true => exact ⟨_, fun σ' H' ⟨p', l⟩ => ⟨_, l, rfl, p'⟩, q⟩
  | false => exact q
end L2
namespace L2
open PySem PySem.Spec PyProof.Rows
noncomputable abbrev R2 := V → V → Hp → VK → Prop
noncomputable def OpR (X : Cx) (f : Value → Value → Sem Value) (r : R2) : Prop :=
  ∀ (pins : List (Addr × Obj)) (s : Shared) (σ : St) (H : Hp) (x y : V) (v u : Value) (Q : VK), Inv X pins σ H s → RelV x v → RelV y u → r x y H Q →
    wpAny (model X.prog X.w) X.A (f v u) (EP X pins σ Q) X.xe s
noncomputable def UnR (X : Cx) (f : Value → Sem Value) (r : V → Hp → VK → Prop) : Prop :=
  ∀ (pins : List (Addr × Obj)) (s : Shared) (σ : St) (H : Hp) (x : V) (v : Value) (Q : VK), Inv X pins σ H s → RelV x v → r x H Q →
    wpAny (model X.prog X.w) X.A (f v) (EP X pins σ Q) X.xe s
noncomputable def CallR (X : Cx) (f : Value) (r : List V → Hp → VK → Prop) : Prop :=
  ∀ (pins : List (Addr × Obj)) (s : Shared) (σ : St) (H : Hp) (xs : List V) (us : List Value) (Q : VK), Inv X pins σ H s → Vals xs us → r xs H Q →
    wpAny (model X.prog X.w) X.A (call f us) (EP X pins σ Q) X.xe s
noncomputable def tOp (r : R2) (ta tb : TE) : TE := fun σ H Q => ta σ H fun x H1 => tb σ H1 fun y H2 => r x y H2 Q
noncomputable def tUn (r : V → Hp → VK → Prop) (ta : TE) : TE := fun σ H Q => ta σ H fun x H1 => r x H1 Q
noncomputable def rI (C : Int → Int → Prop) (g : Int → Int → V) : R2 := fun x y H Q => ∃ i j, x = .int i ∧ y = .int j ∧ C i j ∧ Q (g i j) H
noncomputable def rI0 (g : Int → Int → V) : R2 := fun x y H Q => ∃ i j, x = .int i ∧ y = .int j ∧ Q (g i j) H
noncomputable def rU (g : Int → V) : V → Hp → VK → Prop := fun x H Q => ∃ i, x = .int i ∧ Q (g i) H
section
variable {X : Cx} {a b c : Expr} {ta tb tc : TE} {pos : Pos}
theorem binT (ha : PE X a ta) (hb : PE X b tb) {pins : List (Addr × Obj)} {s : Shared} {σ : St} {H : Hp} {R : V → V → Hp → Prop} (I : Inv X pins σ H s)
    (h : ta σ H fun x H1 => tb σ H1 fun y H2 => R x y H2) {Q : Value → Shared → Prop} {f : Value → Value → Sem Value}
    (hf : ∀ v u s2 x y H2, Inv X pins σ H2 s2 → RelV x v → RelV y u → R x y H2 → wpAny (model X.prog X.w) X.A (f v u) Q X.xe s2) :
    wpAny (model X.prog X.w) X.A (eval a X.env) (fun v s₁ => wpAny (model X.prog X.w) X.A (eval b X.env) (fun u s₂ => wpAny (model X.prog X.w) X.A (f v u) Q X.xe s₂) X.xe s₁) X.xe s := by
  refine thn (ha pins s σ H _ I h) fun v s1 ⟨x, H1, I1, r1, q1⟩ => ?_
  refine thn (hb pins s1 σ H1 _ I1 q1) fun u s2 ⟨y, H2, I2, r2, q2⟩ => ?_
  exact hf v u s2 x y H2 I2 r1 r2 q2
theorem pe_op {op : Operator} {r : R2} (ho : OpR X (binaryOp op) r) (ha : PE X a ta) (hb : PE X b tb) : PE X (.BinOp a op b pos) (tOp r ta tb) := by
  intro pins s σ H Q I h
  exact wpAny_BinOp (binT ha hb I h fun v u s2 x y H2 I2 rx ry q => ho pins s2 σ H2 x y v u Q I2 rx ry q)
theorem pe_un {op : UnaryOp} {r : V → Hp → VK → Prop} (ho : UnR X (unaryOp op) r) (ha : PE X a ta) : PE X (.UnaryOp op a pos) (tUn r ta) := by
  intro pins s σ H Q I h
  exact UnaryOp_ (thn (ha pins s σ H _ I h) fun v s1 ⟨x, H1, I1, r1, q1⟩ => ho pins s1 σ H1 x v Q I1 r1 q1)
theorem opI {f : Value → Value → Sem Value} {C : Int → Int → Prop} {g : Int → Int → Int}
    (rule : ∀ (i j : Int) (t u : Tok) (s : Shared) (Q : Value → Shared → Prop) (E : Value → Shared → Prop), C i j → Q (.int (g i j) s.toks) { s with toks := s.toks + 1 } → wpAny (model X.prog X.w) X.A (f (.int i t) (.int j u)) Q E s) :
    OpR X f (rI C fun i j => .int (g i j)) := by
  intro pins s σ H x y v u Q I rx ry h
  obtain ⟨i, j, rfl, rfl, hc, q⟩ := h
  obtain ⟨t, rfl⟩ := rx
  obtain ⟨t', rfl⟩ := ry
  exact rule i j t t' s _ _ hc ⟨.int (g i j), H, I.tok _, ⟨_, rfl⟩, q⟩
theorem opI0 {f : Value → Value → Sem Value} {g : Int → Int → Int}
    (rule : ∀ (i j : Int) (t u : Tok) (s : Shared) (Q : Value → Shared → Prop) (E : Value → Shared → Prop), Q (.int (g i j) s.toks) { s with toks := s.toks + 1 } → wpAny (model X.prog X.w) X.A (f (.int i t) (.int j u)) Q E s) :
    OpR X f (rI0 fun i j => .int (g i j)) := by
  intro pins s σ H x y v u Q I rx ry h
  obtain ⟨i, j, rfl, rfl, q⟩ := h
  obtain ⟨t, rfl⟩ := rx
  obtain ⟨t', rfl⟩ := ry
  exact rule i j t t' s _ _ ⟨.int (g i j), H, I.tok _, ⟨_, rfl⟩, q⟩
theorem opB0 {f : Value → Value → Sem Value} {g : Int → Int → Bool}
    (rule : ∀ (i j : Int) (t u : Tok) (s : Shared) (Q : Value → Shared → Prop) (E : Value → Shared → Prop), Q (.bool (g i j)) s → wpAny (model X.prog X.w) X.A (f (.int i t) (.int j u)) Q E s) :
    OpR X f (rI0 fun i j => .bl (g i j)) := by
  intro pins s σ H x y v u Q I rx ry h
  obtain ⟨i, j, rfl, rfl, q⟩ := h
  obtain ⟨t, rfl⟩ := rx
  obtain ⟨t', rfl⟩ := ry
  exact rule i j t t' s _ _ ⟨.bl (g i j), H, I, rfl, q⟩
noncomputable def CDiv (i j : Int) : Prop := 0 < j ∧ j < 1073741824
noncomputable def CPow (i j : Int) : Prop := 0 ≤ j ∧ j ≤ 1000000 ∧ i.natAbs < 2 ^ 64
noncomputable def CMul (i j : Int) : Prop := (-(2 ^ 64) < i ∧ i < 2 ^ 64) ∨ (-(2 ^ 64) < j ∧ j < 2 ^ 64)
theorem CMul.ok {i j : Int} (h : CMul i j) : IntMulOk i j := by
  rcases h with ⟨h1, h2⟩ | ⟨h1, h2⟩
  · exact .of_left (intBits_le_64 h1 h2)
  · exact .of_right (intBits_le_64 h1 h2)
theorem op_add : OpR X (binaryOp .Add) (rI0 fun i j => .int (i + j)) := opI0 fun _ _ _ _ _ _ _ q => add_int q
theorem op_sub : OpR X (binaryOp .Sub) (rI0 fun i j => .int (i - j)) := opI0 fun _ _ _ _ _ _ _ q => sub_int q
theorem op_mul : OpR X (binaryOp .Mult) (rI CMul fun i j => .int (i * j)) := opI fun _ _ _ _ _ _ _ hc q => mul_int q hc.ok
theorem op_fdiv : OpR X (binaryOp .FloorDiv) (rI CDiv fun i j => .int (i / j)) := opI fun i j _ _ _ _ _ hc q => by
  have h1 : (0 : Int) < j := hc.1
  have h2 : j < 1073741824 := hc.2
  exact floordiv_int (by (first | lia | omega)) (by rw [Int.fdiv_eq_ediv_of_nonneg i (by (first | lia | omega))]; exact q) (.inl (PyProof.noPylong_small (by (first | lia | omega))))
theorem op_mod : OpR X (binaryOp .Mod) (rI (fun _ j => 0 < j) fun i j => .int (i % j)) := opI fun i j _ _ _ _ _ hc q => by
  have h1 : (0 : Int) < j := hc
  exact mod_int' (by (first | lia | omega)) (by rw [Int.fmod_eq_emod_of_nonneg i (by (first | lia | omega))]; exact q)
theorem op_pow : OpR X (binaryOp .Pow) (rI CPow fun i j => .int (i ^ j.toNat)) := opI fun _ _ _ _ _ _ _ hc q => pow_int_small hc.1 hc.2.1 hc.2.2 q
theorem unI {f : Value → Sem Value} {g : Int → Int}
    (rule : ∀ (i : Int) (t : Tok) (s : Shared) (Q : Value → Shared → Prop) (E : Value → Shared → Prop), Q (.int (g i) s.toks) { s with toks := s.toks + 1 } → wpAny (model X.prog X.w) X.A (f (.int i t)) Q E s) :
    UnR X f (rU fun i => .int (g i)) := by
  intro pins s σ H x v Q I rx h
  obtain ⟨i, rfl, q⟩ := h
  obtain ⟨t, rfl⟩ := rx
  exact rule i t s _ _ ⟨.int (g i), H, I.tok _, ⟨_, rfl⟩, q⟩
theorem un_neg : UnR X (unaryOp .USub) (rU fun i => .int (-i)) := unI fun _ _ _ _ _ q => neg_int q
end
noncomputable def scal : V → V → Bool
  | .non, .non => true | .non, .int _ => true | .int _, .non => true | .non, .bl _ => true | .bl _, .non => true | .non, .str _ => true | .str _, .non => true
  | .int _, .int _ => true | .bl _, .bl _ => true | .str _, .str _ => true | .byt _, .byt _ => true
  | .int _, .str _ => true | .str _, .int _ => true | .bl _, .str _ => true | .str _, .bl _ => true
  | _, _ => false
noncomputable def rEq : R2 := fun x y H Q => scal x y = true ∧ Q (.bl (decide (x = y))) H
theorem dec_int {i j : Int} : decide (V.int i = V.int j) = (i == j) := by
  rw [Bool.eq_iff_iff]
  simp
theorem dec_bl {i j : Bool} : decide (V.bl i = V.bl j) = (i == j) := by
  rw [Bool.eq_iff_iff]
  simp
theorem dec_str {i j : Str} : decide (V.str i = V.str j) = (i == j) := by
  rw [Bool.eq_iff_iff]
  simp
theorem dec_byt {i j : Array UInt8} : decide (V.byt i = V.byt j) = (i.toList == j.toList) := by
  rw [Bool.eq_iff_iff]
  cases i
  cases j
  simp
section
variable {X : Cx} {a b c : Expr} {ta tb tc : TE} {pos : Pos}
theorem fin_bl {pins : List (Addr × Obj)} {σ : St} {H : Hp} {s : Shared} {Q : VK} {k k' : Bool} (I : Inv X pins σ H s) (q : Q (.bl k) H) (e : k = k') : EP X pins σ Q (.bool k') s := by
  subst e
  exact ⟨.bl k, H, I, rfl, q⟩
theorem op_eq : OpR X (compareOp .Eq) rEq := by
  intro pins s σ H x y v u Q I rx ry h
  obtain ⟨hs, q⟩ := h
  cases x with
  | non =>
    cases rx
    cases y with
    | non => cases ry; exact PySem.EqNone.eq_none_none (fin_bl I q (by simp))
    | bl j => cases ry; exact PySem.EqNone.eq_none_bool (fin_bl I q (by simp))
    | int j => obtain ⟨t', rfl⟩ := ry; exact PySem.EqNone.eq_none_int (fin_bl I q (by simp))
    | str j => obtain ⟨t', rfl⟩ := ry; exact PySem.EqNone.eq_none_str (fin_bl I q (by simp))
    | _ => exact absurd (show false = true from hs) Bool.false_ne_true
  | bl i =>
    cases rx
    cases y with
    | non => cases ry; exact PySem.EqNone.eq_bool_none (fin_bl I q (by simp))
    | bl j => cases ry; exact eq_bool (fin_bl I q dec_bl)
    | str j => obtain ⟨t', rfl⟩ := ry; exact PySem.EqMixed.eq_bool_str (fin_bl I q (by simp))
    | _ => exact absurd (show false = true from hs) Bool.false_ne_true
  | int i =>
    obtain ⟨t, rfl⟩ := rx
    cases y with
    | non => cases ry; exact PySem.EqNone.eq_int_none (fin_bl I q (by simp))
    | int j => obtain ⟨t', rfl⟩ := ry; exact eq_int (fin_bl I q dec_int)
    | str j => obtain ⟨t', rfl⟩ := ry; exact PySem.EqMixed.eq_int_str (fin_bl I q (by simp))
    | _ => exact absurd (show false = true from hs) Bool.false_ne_true
  | str i =>
    obtain ⟨t, rfl⟩ := rx
    cases y with
    | non => cases ry; exact PySem.EqNone.eq_str_none (fin_bl I q (by simp))
    | bl j => cases ry; exact PySem.EqMixed.eq_str_bool (fin_bl I q (by simp))
    | int j => obtain ⟨t', rfl⟩ := ry; exact PySem.EqMixed.eq_str_int (fin_bl I q (by simp))
    | str j => obtain ⟨t', rfl⟩ := ry; exact eq_str (fin_bl I q dec_str)
    | _ => exact absurd (show false = true from hs) Bool.false_ne_true
  | byt i =>
    obtain ⟨t, rfl⟩ := rx
    cases y with
    | byt j => obtain ⟨t', rfl⟩ := ry; exact PySem.W.eq_bytes (fin_bl I q dec_byt)
    | _ => exact absurd (show false = true from hs) Bool.false_ne_true
  | _ => cases y <;> exact absurd (show false = true from hs) Bool.false_ne_true
theorem op_lt : OpR X (compareOp .Lt) (rI0 fun i j => .bl (decide (i < j))) := opB0 fun _ _ _ _ _ _ _ q => lt_int q
theorem op_le : OpR X (compareOp .LtE) (rI0 fun i j => .bl (decide (i ≤ j))) := opB0 fun _ _ _ _ _ _ _ q => le_int q
theorem op_gt : OpR X (compareOp .Gt) (rI0 fun i j => .bl (decide (j < i))) := opB0 fun _ _ _ _ _ _ _ q => gt_int q
theorem op_ge : OpR X (compareOp .GtE) (rI0 fun i j => .bl (decide (j ≤ i))) := opB0 fun _ _ _ _ _ _ _ q => ge_int q
theorem nomark (b : Expr) {op : CmpOp} (h : op ≠ .In := by decide) (h2 : op ≠ .NotIn := by decide) : behindInMarks op b = false := by
  have e1 : (op == CmpOp.In) = false := by cases op <;> first | rfl | exact absurd rfl h
  have e2 : (op == CmpOp.NotIn) = false := by cases op <;> first | rfl | exact absurd rfl h2
  cases b <;> simp [behindInMarks, e1, e2]
theorem pe_cmpR {op : CmpOp} {r : R2} (ho : OpR X (compareOp op) r) (ha : PE X a ta) (hb : PE X b tb) (hm : behindInMarks op b = false) : PE X (.Compare a [op] [b] pos) (tOp r ta tb) := by
  intro pins s σ H Q I h
  exact wpAny_Compare1 (binT ha hb I h fun v u s2 x y H2 I2 rx ry q => ho pins s2 σ H2 x y v u Q I2 rx ry q) hm
noncomputable def tTest (t : TE) : TT := fun σ H Q => t σ H fun x H' => ∃ k, x = .bl k ∧ Q k H'
theorem pt_cmpR {op : CmpOp} {r : R2} (ho : OpR X (compareOp op) r) (ha : PE X a ta) (hb : PE X b tb) (hm : behindInMarks op b = false) : PT X (.Compare a [op] [b] pos) (tTest (tOp r ta tb)) := by
  intro pins s σ H Q I h
  refine wpAny_isTrue_Compare1 (thn (ha pins s σ H _ I h) fun v s1 ⟨x, H1, I1, r1, q1⟩ => thn (hb pins s1 σ H1 _ I1 q1) fun u s2 ⟨y, H2, I2, r2, q2⟩ =>
    thn (ho pins s2 σ H2 x y v u _ I2 r1 r2 q2) fun c s3 ⟨z, H3, I3, r3, k, e, q3⟩ => ?_) hm
  subst e
  cases r3
  exact wpAny_truthy_bool ⟨H3, I3, q3⟩
noncomputable def tChain (r r' : R2) (ta tb tc : TE) : TE := fun σ H Q => ta σ H fun x H1 => tb σ H1 fun y H2 => r x y H2 fun z H3 => ∃ k, z = .bl k ∧
  (if k = true then tc σ H3 fun w' H4 => r' y w' H4 Q else Q (.bl false) H3)
theorem pe_chain {op op' : CmpOp} {r r' : R2} (ho : OpR X (compareOp op) r) (ho' : OpR X (compareOp op') r') (ha : PE X a ta) (hb : PE X b tb) (hc : PE X c tc)
    (hm : lastMarks [op, op'] [b, c] = false := by with_unfolding_all rfl) : PE X (.Compare a [op, op'] [b, c] pos) (tChain r r' ta tb tc) := by
  intro pins s σ H Q I h
  refine Compare_chain (thn (ha pins s σ H _ I h) fun v s1 ⟨x, H1, I1, r1, q1⟩ => chain_link (thn (hb pins s1 σ H1 _ I1 q1) fun u s2 ⟨y, H2, I2, r2, q2⟩ =>
    thn (ho pins s2 σ H2 x y v u _ I2 r1 r2 q2) fun d s3 ⟨z, H3, I3, r3, k, e, q3⟩ => ?_)) hm
  subst e
  cases r3
  refine wpAny_truthy_bool ?_
  cases k with
  | false => exact ite_ff ⟨.bl false, H3, I3, rfl, q3⟩
  | true => exact ite_tt (chain_last (thn (hc pins s3 σ H3 _ I3 q3) fun w' s4 ⟨z', H4, I4, r4, q4⟩ => ho' pins s4 σ H4 y z' u w' Q I4 r2 r4 q4))
theorem line63 : (sizeLine : Nat) < 2 ^ 63 := by rw [sizeLine_eq]; decide
theorem vals1 {x : V} {us : List Value} (r : Vals [x] us) : ∃ u, us = [u] ∧ RelV x u := by
  cases r with
  | cons r1 r2 => cases r2; exact ⟨_, rfl, r1⟩
theorem vals2 {x y : V} {us : List Value} (r : Vals [x, y] us) : ∃ u w', us = [u, w'] ∧ RelV x u ∧ RelV y w' := by
  cases r with
  | cons r1 r2 =>
    cases r2 with
    | cons r3 r4 => cases r4; exact ⟨_, _, rfl, r1, r3⟩
theorem call_int1 : CallR X (.type "int") (fun xs H Q => (∃ i, xs = [.int i] ∧ Q (.int i) H) ∨ ∃ k, xs = [.bl k] ∧ Q (.int (if k then 1 else 0)) H) := by
  intro pins s σ H xs us Q I r h
  rcases h with ⟨i, rfl, q⟩ | ⟨k, rfl, q⟩
  · obtain ⟨u, rfl, t, rfl⟩ := vals1 r
    exact call_int_int ⟨.int i, H, I, ⟨_, rfl⟩, q⟩
  · obtain ⟨u, rfl, r1⟩ := vals1 r
    cases r1
    exact call_int_bool ⟨.int (if k then 1 else 0), H, I.tok _, ⟨_, rfl⟩, q⟩
end
end L2
namespace L2
open PySem PySem.Spec PyProof.Rows
structure ObjM (h : Heap) (x dx C : Addr) (mA : Str → Option Value) : Prop where
  obj : h.get? x = some (PySem.W.instObj C dx)
  ns : h.Ns1 dx mA
  ne : dx ≠ x
theorem lookIn_ns {h : Heap} {dx : Addr} {mA : Str → Option Value} (n : h.Ns1 dx mA) : ∃ od, h.get? dx = some od ∧ ∀ name, PySem.W.lookIn name od = some (mA name) := by
  obtain ⟨o, es, ep, ho, hd, hk, _, hm⟩ := n
  refine ⟨o, ho, fun name => ?_⟩
  have e := hm name
  unfold nsFind findBy at e
  rw [← Array.find?_toList] at e
  unfold PySem.W.lookIn
  rw [hd]
  dsimp only
  split
  · rename_i y q
    rw [q] at e
    exact congrArg some e
  · rename_i q
    rw [q] at e
    have a : es.toList.any (·.refKey) = false := by
      rw [List.any_eq_false]
      intro y hy
      obtain ⟨z, t, hkey⟩ := hk y (Array.mem_toList_iff.mp hy)
      simp [DictEntry.refKey, hkey]
    have a' : ¬ es.toList.any (·.refKey) = true := by rw [a]; exact Bool.false_ne_true
    rw [if_neg a']
    exact congrArg some e
theorem ObjM.look {h : Heap} {x dx C : Addr} {mA : Str → Option Value} (I : ObjM h x dx C mA) : ∃ od, PySem.W.InstAt h x (PySem.W.instObj C dx) C (some od) ∧ ∀ name, PySem.W.lookIn name od = some (mA name) :=
  let ⟨od, ho, hl⟩ := lookIn_ns I.ns
  ⟨od, ⟨I.obj, rfl, rfl, ho⟩, hl⟩
section
variable {prog : Program} {w : World} {A : Around} {E : Value → Shared → Prop} {s : Shared} {K : PySem.W.Frag} {x dx C f : Addr} {mA : Str → Option Value} {name : Str} {v : Value}
end
noncomputable def putF (f : Str) (v : V) : List (Str × V) → List (Str × V)
  | [] => [(f, v)]
  | (g, x) :: r => if g = f then (g, v) :: r else (g, x) :: putF f v r
theorem lookup_putF (f g : Str) (v : V) : ∀ fs : List (Str × V), (putF f v fs).lookup g = if g = f then some v else fs.lookup g
  | [] => by
    show List.lookup g [(f, v)] = _
    by_cases h : g = f
    · have hb : (g == f) = true := beq_iff_eq.mpr h
      simp only [List.lookup, hb, if_pos h]
    · have hb : (g == f) = false := beq_eq_false_iff_ne.mpr h
      simp only [List.lookup, hb, if_neg h]
  | (k, x) :: r => by
    have ih := lookup_putF f g v r
    rw [show putF f v ((k, x) :: r) = (if k = f then (k, v) :: r else (k, x) :: putF f v r) from rfl]
    by_cases hk : k = f
    · rw [if_pos hk]
      by_cases h : g = k
      · have hb : (g == k) = true := beq_iff_eq.mpr h
        simp only [List.lookup, hb, if_pos (h.trans hk)]
      · have hb : (g == k) = false := beq_eq_false_iff_ne.mpr h
        simp only [List.lookup, hb, if_neg (fun e : g = f => h (e.trans hk.symm))]
    · rw [if_neg hk]
      by_cases h : g = k
      · have hb : (g == k) = true := beq_iff_eq.mpr h
        simp only [List.lookup, hb, if_neg (fun e : g = f => hk (h.symm.trans e))]
      · have hb : (g == k) = false := beq_eq_false_iff_ne.mpr h
        simp only [List.lookup, hb]
        exact ih
theorem keys_putF (f : Str) (v : V) : ∀ fs : List (Str × V), f ∈ (putF f v fs).map (·.1) ∧ ∀ g, g ∈ fs.map (·.1) → g ∈ (putF f v fs).map (·.1)
  | [] => ⟨by simp [putF], fun g h => by simp at h⟩
  | (k, x) :: r => by
    obtain ⟨i1, i2⟩ := keys_putF f v r
    rw [show putF f v ((k, x) :: r) = (if k = f then (k, v) :: r else (k, x) :: putF f v r) from rfl]
    by_cases hk : k = f
    · rw [if_pos hk]
      subst hk
      exact ⟨by simp, fun g h => by simpa using h⟩
    · rw [if_neg hk]
      refine ⟨?_, fun g h => ?_⟩
      · rw [List.map_cons]
        exact List.mem_cons_of_mem _ i1
      · rw [List.map_cons] at h ⊢
        rcases List.mem_cons.mp h with e | e
        · exact List.mem_cons.mpr (.inl e)
        · exact List.mem_cons_of_mem _ (i2 g e)
theorem RelO.some_of {v : V} {o : Option Value} (r : RelO (some v) o) : ∃ u, o = some u ∧ RelV v u := by
  cases o with
  | none => exact (show False from r).elim
  | some u => exact ⟨u, rfl, r⟩
theorem handed_of {v : V} {u : Value} (r : RelV v u) : PySem.W.handedIn u = true := by
  cases v with
  | non => cases (show u = Value.none from r); rfl
  | bl b => cases (show u = Value.bool b from r); rfl
  | int i => obtain ⟨t, e⟩ := (show ∃ t, u = Value.int i t from r); cases e; rfl
  | str x => obtain ⟨t, e⟩ := (show ∃ t, u = Value.str x t from r); cases e; rfl
  | byt b => obtain ⟨t, e⟩ := (show ∃ t, u = Value.bytes b t from r); cases e; rfl
  | flt b => obtain ⟨t, e⟩ := (show ∃ t, u = Value.float b t from r); cases e; rfl
  | ref a => cases (show u = Value.ref a from r); rfl
  | ty n => cases (show u = Value.type n from r); rfl
section
variable {P : Program} {w : World} {H H' : Hp} {h h' : Heap} {a C dx : Addr} {fs fs' : List (Str × V)}
theorem ins_get (hok : HOk P w H h) (e : H a = some (.ins C dx fs)) : ∃ mA, ObjM h a dx C mA ∧ (∀ f, RelO (fs.lookup f) (mA f)) ∧ PySem.Within mA (fs.map (·.1)) ∧ fs.length ≤ 1000 ∧ H dx = some (.own a) := by
  obtain ⟨d, z, ne, ob, mA, n, r, q⟩ := (show ObjOk P w H h a (.ins C dx fs) from hok a _ e)
  exact ⟨mA, ⟨ob, n, ne⟩, r, q, z, d⟩
end
structure Cls (K : PySem.W.Frag) (C : Addr) : Prop where
  pg : PySem.W.plainGet K C Str.empty = true
  hd : PySem.W.hasDictIn K C = true
  po : PySem.W.plainOver K C = true
  sa : PySem.W.findIn K (.ref C) "__setattr__" = some (some (.builtin "object.__setattr__"))
theorem Cls.get {K : PySem.W.Frag} {C : Addr} (c : Cls K C) (f : Str) : PySem.W.plainGet K C f = true := c.pg
noncomputable def NoAttr (K : PySem.W.Frag) (C : Addr) (f : Str) : Prop := PySem.W.findIn K (.ref C) f = some none
theorem NoAttr.taker {K : PySem.W.Frag} {C : Addr} {f : Str} (n : NoAttr K C f) : PySem.W.takerIn K C f = some none := by
  unfold PySem.W.takerIn
  rw [show PySem.W.findIn K (.ref C) f = some none from n]
  rfl
section
variable {X : Cx} {pins : List (Addr × Obj)} {σ : St} {H : Hp} {s : Shared} {a C dx : Addr} {fs : List (Str × V)} {f : Str} {v : V} {A : Around} {E : Value → Shared → Prop}
theorem attr_of {prog : Program} {w : World} {env : Env} {e : Expr} {f : Str} {pos : Pos} {s : Shared} {Q : Value → Shared → Prop} (hb : attributeBase e f env (eval e env) = eval e env)
    (h : wpAny (model prog w) A (eval e env) (fun o s₁ => wpAny (model prog w) A (getAttr o f true) Q E s₁) E s) : wpAny (model prog w) A (eval (.Attribute e f pos) env) Q E s :=
  Attribute_any_ h (by rw [arm_eval_Attribute, hb])
end
section
variable {X : Cx} {o e value : Expr} {f : Str} {pos pos' tpos : Pos} {ta tv : TE}
end
section
variable {X : Cx} {pins : List (Addr × Obj)} {σ : St} {H : Hp} {s : Shared} {A : Around} {E : Value → Shared → Prop} {Q : Value → Shared → Prop} {c : Value} {b : Bool}
inductive TyOf (K : PySem.W.Frag) (H : Hp) : V → Value → Prop where
  | non : TyOf K H .non (.type "NoneType")
  | bl (x : Bool) : TyOf K H (.bl x) (.type "bool")
  | int (i : Int) : TyOf K H (.int i) (.type "int")
  | str (x : Str) : TyOf K H (.str x) (.type "str")
  | flt (x : UInt64) : TyOf K H (.flt x) (.type "float")
  | lst {a : Addr} {xs : List V} (e : H a = some (.lst xs)) : TyOf K H (.ref a) (.type "list")
  | frz {a : Addr} {o : Obj} {xs : List V} (e : H a = some (.frz o (.lst xs))) : TyOf K H (.ref a) (.type "list")
  | tup {a : Addr} {xs : List V} (e : H a = some (.tup xs)) : TyOf K H (.ref a) (.type "tuple")
  | dK {a : Addr} {kvs : List (Key × V)} (e : H a = some (.dK kvs)) : TyOf K H (.ref a) (.type "dict")
  | dT {a : Addr} {kvs : List (List Key × V)} (e : H a = some (.dT kvs)) : TyOf K H (.ref a) (.type "dict")
  | ins {a C dx : Addr} {fs : List (Str × V)} (e : H a = some (.ins C dx fs)) (cl : Cls K C) (ha : PySem.W.findIn K (.ref C) "__class__" = some (some (.builtin "object.__class__")))
      (hn : PySem.W.specialIn K (.builtin "object.__class__") "__get__" = some (some (.builtin "getset_descriptor.__get__"))) (htk : PySem.W.takesIn K (.builtin "object.__class__") = some true)
      (hm : PySem.W.mroIn K C (.type "object") = some true) : TyOf K H (.ref a) (.ref C)
theorem isinst_ok {x : V} {u t : Value} (I : Inv X pins σ H s) (rx : RelV x u) (ty : TyOf X.K H x t) (e : PySem.W.kitOne X.K t c = some b) (h : ∀ tk, Q (.bool b) { s with toks := tk }) :
    wpAny (model X.prog X.w) A (call (.builtin "isinstance") [u, c]) Q E s := by
  cases ty with
  | non => cases (show u = Value.none from rx); exact PySem.W.kia_one PySem.W.kitx_none I.kIn True.intro e (fun z => nomatch z) h
  | bl y => cases (show u = Value.bool y from rx); exact PySem.W.kia_one PySem.W.kitx_bool I.kIn True.intro e (fun z => nomatch z) h
  | int i => obtain ⟨t, q⟩ := (show ∃ t, u = Value.int i t from rx); cases q; exact PySem.W.kia_one PySem.W.kitx_int I.kIn True.intro e (fun z => nomatch z) h
  | str y => obtain ⟨t, q⟩ := (show ∃ t, u = Value.str y t from rx); cases q; exact PySem.W.kia_one PySem.W.kitx_str I.kIn True.intro e (fun z => nomatch z) h
  | flt y => obtain ⟨t, q⟩ := (show ∃ t, u = Value.float y t from rx); cases q; exact PySem.W.kia_one PySem.W.kitx_float I.kIn True.intro e (fun z => nomatch z) h
  | @lst a xs ea =>
    cases (show u = Value.ref a from rx)
    obtain ⟨_, _, n, _, h1⟩ := (show ObjOk X.prog X.w H s.heap a (.lst xs) from I.hok a _ ea)
    exact PySem.W.kia_one PySem.W.kitx_list I.kIn ⟨_, h1, rfl⟩ e (fun z => nomatch z) h
  | @frz a ob xs ea =>
    cases (show u = Value.ref a from rx)
    obtain ⟨_, _, _, n, _, h1⟩ := (show ObjOk X.prog X.w H s.heap a (.frz ob (.lst xs)) from I.hok a _ ea)
    exact PySem.W.kia_one PySem.W.kitx_list I.kIn ⟨_, h1, rfl⟩ e (fun z => nomatch z) h
  | @tup a xs ea =>
    cases (show u = Value.ref a from rx)
    obtain ⟨_, _, _, p⟩ := (show ObjOk X.prog X.w H s.heap a (.tup xs) from I.hok a _ ea)
    obtain ⟨o, h1, h2, _⟩ := p
    exact PySem.W.kia_one PySem.W.kitx_tuple I.kIn ⟨o, h1, h2⟩ e (fun z => nomatch z) h
  | @dK a kvs ea =>
    cases (show u = Value.ref a from rx)
    obtain ⟨_, _, vs, _, p⟩ := (show ObjOk X.prog X.w H s.heap a (.dK kvs) from I.hok a _ ea)
    obtain ⟨o, es, ep, h1, h2, _⟩ := p
    exact PySem.W.kia_one PySem.W.kitx_dict I.kIn ⟨o, h1, h2.1⟩ e (fun z => nomatch z) h
  | @dT a kvs ea =>
    cases (show u = Value.ref a from rx)
    obtain ⟨_, _, xs, _, o, es, ep, h1, h2, _⟩ := (show ObjOk X.prog X.w H s.heap a (.dT kvs) from I.hok a _ ea)
    exact PySem.W.kia_one PySem.W.kitx_dict I.kIn ⟨o, h1, h2.1⟩ e (fun z => nomatch z) h
  | @ins a C dx fs ea cl ha hn htk hm =>
    cases (show u = Value.ref a from rx)
    obtain ⟨mA, O, _⟩ := ins_get I.hok ea
    obtain ⟨od, J, _⟩ := O.look
    exact PySem.W.kia_one (PySem.W.kitx_own (cl.get _) cl.hd ha hn htk hm) I.kIn J e (fun z => nomatch z) h
end
end L2
namespace L2
open PySem PySem.Spec PyProof.Rows
structure Room (k : Nat) (A : Around) : Prop where
  hd : A.handled = none
  dp : A.depth + 3 * k + 5 < recursionLimit
  un : A.units + 16 * k + 200 < cLine
theorem Room.mono {j k : Nat} {A : Around} (r : Room k A) (h : j ≤ k) : Room j A := ⟨r.hd, by have := r.dp; (first | lia | omega), by have := r.un; (first | lia | omega)⟩
theorem Room.deeper {k : Nat} {A : Around} (r : Room (k + 1) A) (env : Env) : Room k (A.deeper env) :=
  ⟨r.hd, by have := r.dp; show A.depth + 1 + 3 * k + 5 < _; (first | lia | omega), by have := r.un; show A.units + 3 + 16 * k + 200 < _; (first | lia | omega)⟩
theorem make_depth {A : Around} {C : Addr} {us : List Value} {kw : List (Str × Value)} : (A.under (.builtin "type.__call__" ⟨.ref C :: us, kw⟩)).depth = A.depth + 1 := by
  first | rfl | simp [Around.under, Code.weight, Code.isCreation, Code.isGuard, Code.isCaller, Code.frames, Code.isFrame, guardIds]
theorem make_units {A : Around} {C : Addr} {us : List Value} {kw : List (Str × Value)} : (A.under (.builtin "type.__call__" ⟨.ref C :: us, kw⟩)).units = A.units + 1 := by
  first | rfl | simp [Around.under, Code.cUnits, Code.frames, Code.isFrame]
theorem Room.make {k : Nat} {A : Around} (r : Room (k + 1) A) (C : Addr) (us : List Value) (kw : List (Str × Value)) : Room k (A.under (.builtin "type.__call__" ⟨.ref C :: us, kw⟩)) :=
  ⟨r.hd, by have := r.dp; rw [make_depth]; (first | lia | omega), by have := r.un; rw [make_units]; (first | lia | omega)⟩
theorem Room.depth {k : Nat} {A : Around} (r : Room k A) : A.depth < recursionLimit := by have := r.dp; (first | lia | omega)
theorem Room.units {k : Nat} {A : Around} (r : Room k A) : A.units + 64 < cLine := by have := r.un; (first | lia | omega)
noncomputable def tNil : TA := fun _ H Q => Q [] H
noncomputable def tCons (ta : TE) (tr : TA) : TA := fun σ H Q => ta σ H fun x H1 => tr σ H1 fun xs H2 => Q (x :: xs) H2
section
variable {X : Cx} {e : Expr} {es : List Expr} {te : TE} {t : TA} {pos : Pos}
theorem pa_nil : PA X [] tNil := fun _ _ _ _ H Q I h => Calls.spliced_nil ⟨[], H, I, .nil, h⟩
theorem pa_cons (ha : PE X e te) (hr : PA X es t) (hs : starEach (e :: es) X.env = (false, eval e X.env) :: starEach es X.env := by rfl) : PA X (e :: es) (tCons te t) := by
  intro pos pins s σ H Q I h
  rw [hs]
  show wpAny _ _ (spliced ((false, eval e X.env) :: backTo pos (starEach es X.env))) _ _ s
  refine Calls.spliced_cons (thn (ha pins s σ H _ I h) fun u s1 ⟨x, H1, I1, r1, q1⟩ => ?_)
  exact thn (hr pos pins s1 σ H1 _ I1 q1) fun us s2 ⟨xs, H2, I2, r2, q2⟩ => ⟨x :: xs, H2, I2, .cons r1 r2, q2⟩
noncomputable def tTup (t : TA) : TE := fun σ H Q => t σ H fun xs H1 => xs.length ≤ sizeLine ∧ ∀ p, H1 p = none → Q (.ref p) (upd H1 p (.tup xs))
noncomputable def tLst (t : TA) : TE := fun σ H Q => t σ H fun xs H1 => xs.length ≤ sizeLine ∧ ∀ p, H1 p = none → Q (.ref p) (upd H1 p (.lst xs))
theorem pe_tup {x1} (h : PA X es t) : PE X (.Tuple es x1 pos) (tTup t) := by
  intro pins s σ H Q I hq
  refine wpAny_Tuple_spliced (thn (h pos pins s σ H _ I hq) fun us s1 ⟨xs, H1, I1, r, z, q⟩ => ⟨by rw [← r.length]; exact z, ?_⟩)
  have hf : H1 s1.heap.objs.size = none := I1.hok.fresh (Nat.le_refl _)
  refine ⟨.ref s1.heap.objs.size, upd H1 s1.heap.objs.size (.tup xs), I1.laid (t' := s1.toks) (fun b u e => Heap.get?_push_of_some _ e) (Nat.le_refl _) ?_, rfl, q _ hf⟩
  exact ⟨z, us, r, ⟨_, Heap.get?_push_size _ rfl, rfl, _, rfl⟩⟩
theorem pe_lst (h : PA X es t) : PE X (.List es pos) (tLst t) := by
  intro pins s σ H Q I hq
  refine wpAny_List_spliced (thn (h pos pins s σ H _ I hq) fun us s1 ⟨xs, H1, I1, r, z, q⟩ => ⟨by rw [← r.length]; exact z, ?_⟩)
  have hf : H1 s1.heap.objs.size = none := I1.hok.fresh (Nat.le_refl _)
  refine ⟨.ref s1.heap.objs.size, upd H1 s1.heap.objs.size (.lst xs), I1.laid (t' := s1.toks) (fun b u e => Heap.get?_push_of_some _ e) (Nat.le_refl _) ?_, rfl, q _ hf⟩
  exact ⟨z, us, 0, r, Heap.get?_push_size _ rfl⟩
end
noncomputable abbrev Sp := List V → Hp → VK → XK → Prop
noncomputable abbrev CXT := List Env → Hp → Shared → XK → Value → Shared → Prop
structure Env0 (P : Program) (w : World) (K : PySem.W.Frag) (mg : Str → Option Value) (base : Heap) (A : Around) (outer : List Env) (s : Shared) (H : Hp) : Prop where
  frames : A.frames = some outer
  mod : Mod K mg base
  bs : ∀ b o, base.get? b = some o → s.heap.get? b = some o ∧ H b = none
  bsz : base.objs.size ≤ s.heap.objs.size
  funs : s.heap.FunFrames base outer
  frf : ∀ b ∈ frs outer, H b = none
  hok : HOk P w H s.heap
  bare : AllBare s.gens
noncomputable def CE (outer : List Env) (P : Program) (w : World) (H : Hp) (s : Shared) (Q : VK) (u : Value) (s' : Shared) : Prop :=
  ∃ v H', s'.os = s.os ∧ AllBare s'.gens ∧ Un (frs outer) [] H H' s.heap s'.heap ∧ HOk P w H' s'.heap ∧ RelV v u ∧ Q v H'
noncomputable def CR (CX : CXT) (outer : List Env) (P : Program) (w : World) (H : Hp) (s : Shared) (Q : VK) (E : XK) (r : Result) (s' : Shared) : Prop :=
  match r with
  | .ok (.ret u) => CE outer P w H s Q u s'
  | .ok _ => False
  | .error e => CX outer H s E e s'
structure FnOk (P : Program) (w : World) (K : PySem.W.Frag) (mg : Str → Option Value) (base : Heap) (CX : CXT) (k : Nat) (f : Addr) (fd : FuncData) (ps : List Str) (sp : Sp) : Prop where
  len : ∀ vs H Q E, sp vs H Q E → vs.length = ps.length
  run : ∀ (A : Around) (outer : List Env) (s : Shared) (H : Hp) (args : Args) (us : List Value) (vs : List V) (Q : VK) (E : XK), Room k A → Env0 P w K mg base A outer s H → BindsTo s fd args (ps.zip us) → Vals vs us → sp vs H Q E →
    codeAny (model P w) A (.call (.ref f) args) (CR CX outer P w H s Q E) s
theorem Env0.make {P : Program} {w : World} {K : PySem.W.Frag} {mg : Str → Option Value} {base : Heap} {A : Around} {outer : List Env} {s : Shared} {H : Hp} (e : Env0 P w K mg base A outer s H) (C : Addr) (us : List Value) (kw : List (Str × Value)) :
    Env0 P w K mg base (A.under (.builtin "type.__call__" ⟨.ref C :: us, kw⟩)) outer s H := ⟨by first | exact e.frames | (simpa [Around.under, Code.envs, Code.isFrame, pushEnvs] using e.frames), e.mod, e.bs, e.bsz, e.funs, e.frf, e.hok, e.bare⟩
section
variable {X : Cx} {pins : List (Addr × Obj)} {σ : St} {H : Hp} {s s' : Shared}
theorem Inv.env0 (I : Inv X pins σ H s) : Env0 X.prog X.w X.K X.mg X.base X.A X.stack s H :=
  ⟨I.ok.frames, I.ok.mod, I.bs, Nat.le_trans I.ok.bsz I.sz, I.stack, I.stkFree, I.hok, I.bare⟩
theorem Inv.after {Q : VK} {u : Value} (I : Inv X pins σ H s) (h : CE X.stack X.prog X.w H s Q u s') : EP X pins σ Q u s' := by
  obtain ⟨v, H', os, bare, un, hok, r, q⟩ := h
  obtain ⟨hh, g, d, t, os'⟩ := s'
  obtain rfl : os' = s.os := os
  exact ⟨v, H', I.call (h' := hh) (g' := g) (d' := d) (t' := t) (ch := []) un hok bare (fun b z => absurd z (by simp)), r, q⟩
end
noncomputable def tCall (sp : Sp) (dvs : List V) (E : XK) (t : TA) : TE := fun σ H Q => t σ H fun vs H1 => sp (vs ++ dvs) H1 Q E
noncomputable def Binds (K : PySem.W.Frag) (fd : FuncData) (ps : List Str) (ds : List Value) : Prop :=
  ∀ (s : Shared) (us : List Value), K.In s.heap → (us ++ ds).length = ps.length → BindsTo s fd ⟨us, []⟩ (ps.zip (us ++ ds))
theorem Binds.all {K : PySem.W.Frag} {fd : FuncData} {ps : List Str} (h : ∀ us : List Value, us.length = ps.length → bindArgs fd ⟨us, []⟩ = pure (ps.zip us)) : Binds K fd ps [] := fun s us _ hl => by
  rw [List.append_nil] at hl ⊢
  exact .of_eq (h us hl)
noncomputable def Passes (CX : CXT) (X : Cx) (E : XK) : Prop := ∀ (pins : List (Addr × Obj)) (σ : St) (H : Hp) (s : Shared) (e : Value) (s' : Shared), Inv X pins σ H s → CX X.stack H s E e s' → X.xe e s'
section
variable {X : Cx} {CX : CXT} {k : Nat} {f C : Addr} {fd : FuncData} {ps : List Str} {sp : Sp} {dvs : List V} {ds : List Value} {E : XK} {x m : Str} {p pos apos : Pos} {e o : Expr} {es : List Expr} {ta : TE} {t : TA}
theorem run_fn {pins : List (Addr × Obj)} {σ : St} {H : Hp} {s : Shared} {Q : VK} {us : List Value} {vs : List V} (F : FnOk X.prog X.w X.K X.mg X.base CX k f fd ps sp) (hr : Room k X.A) (hb : Binds X.K fd ps ds) (hd : Vals dvs ds) (hx : Passes CX X E)
    (I : Inv X pins σ H s) (r : Vals vs us) (h : sp (vs ++ dvs) H Q E) : wpAny (model X.prog X.w) X.A (call (.ref f) us) (EP X pins σ Q) X.xe s := by
  have r2 : Vals (vs ++ dvs) (us ++ ds) := r.append hd
  have hl : (us ++ ds).length = ps.length := by rw [← r2.length]; exact F.len _ _ _ _ h
  refine wpAny_call (codeAny_mono (F.run X.A X.stack s H ⟨us, []⟩ (us ++ ds) (vs ++ dvs) Q E hr I.env0 (hb s us I.kIn hl) r2 h) fun r s' hq => ?_)
  cases r with
  | error e => exact hx pins σ H s e s' I hq
  | ok fl =>
    cases fl with
    | ret u => exact I.after hq
    | next => exact False.elim hq
    | brk => exact False.elim hq
    | cont => exact False.elim hq
theorem pe_call (F : FnOk X.prog X.w X.K X.mg X.base CX k f fd ps sp) (hr : Room k X.A) (hg : Gl X x) (hm : X.mg x = some (.ref f)) (hk : PySem.W.keepIn X.K (.ref f) = true) (hb : Binds X.K fd ps ds) (hd : Vals dvs ds) (hx : Passes CX X E)
    (ha : PA X (e :: es) t) (hdb : (x == ("__debug__" : Str)) = false := by decide) (he : starEach (e :: es) X.env = (false, eval e X.env) :: starEach es X.env := by rfl) (hpl : (backTo pos (starEach es X.env)).any (·.1) = false := by rfl) :
    PE X (.Call (.Name x p) (e :: es) [] pos) (tCall sp dvs E t) := by
  intro pins s σ H Q I h
  refine wpAny_Call_Name_kw (ld_glob I hg hm ?_ hdb)
  refine PySem.W.callWith_K (h₀ := X.base) I.ok.mod.kin hk (thn (ha pos pins s σ H _ I h) fun us s1 ⟨vs, H1, I1, r, q⟩ => ⟨I1.kIn, ?_⟩) he hpl
  exact run_fn F hr hb hd hx I1 r q
end
section
variable {X : Cx} {CX : CXT} {k : Nat} {f C : Addr} {fd : FuncData} {ps ks : List Str} {sp : Sp} {E : XK} {x m : Str} {p pos apos kpos : Pos} {e o : Expr} {es : List Expr} {kws : List Keyword} {te ta : TE} {t tk : TA} {nm : Option Str}
variable {g : List Value → List Value → List Value} {gV : List V → List V → List V}
end
structure FnScope (N P : List Str) (sc : Scope) : Prop where
  kind : sc.kind = .function
  co : sc.isCoroutine = false
  gen : sc.isGenerator = false
  nd : N.Nodup
  pre : N.take P.length = P
  par : ∀ x ∈ P, sc.names.lookup x = some .local ∨ sc.names.lookup x = some .cell
  nofree : ∀ y ∈ sc.names, y.2 ≠ .free
theorem bindL_out {kindOf : Str → Option NameKind} {x : Str} : ∀ {binds : List (Str × Value)} {m : Str → Option Value}, (∀ v, (x, v) ∉ binds) → bindL kindOf binds m x = m x
  | [], _, _ => rfl
  | (n, v) :: r, m, h => by
    unfold bindL
    rw [bindL_out fun w hw => h w (List.mem_cons_of_mem _ hw)]
    split
    · have : x ≠ n := by rintro rfl; exact h v List.mem_cons_self
      simp [this]
    · rfl
theorem bindC_out {kindOf : Str → Option NameKind} {x : Str} : ∀ {binds : List (Str × Value)} {m : Str → Option Value}, (∀ v, (x, v) ∉ binds) → bindC kindOf binds m x = m x
  | [], _, _ => rfl
  | (n, v) :: r, m, h => by
    unfold bindC
    rw [bindC_out fun w hw => h w (List.mem_cons_of_mem _ hw)]
    split
    · rfl
    · have : x ≠ n := by rintro rfl; exact h v List.mem_cons_self
      simp [this]
theorem bindL_get {kindOf : Str → Option NameKind} {x : Str} {v : Value} : ∀ {P : List Str} {vs : List Value} {i : Nat} {m : Str → Option Value}, P.Nodup → P[i]? = some x → vs[i]? = some v → kindOf x = some .local →
    bindL kindOf (P.zip vs) m x = some v
  | [], _, _, _, _, h, _, _ => by simp at h
  | _ :: _, [], _, _, _, _, h, _ => by simp at h
  | p :: P, w :: vs, 0, m, nd, h1, h2, hk => by
    simp at h1 h2; subst h1; subst h2
    show bindL kindOf ((p, w) :: P.zip vs) m p = _
    unfold bindL
    rw [bindL_out fun v hv => (List.nodup_cons.mp nd).1 (List.of_mem_zip hv).1, if_pos hk]
    simp
  | p :: P, w :: vs, i + 1, m, nd, h1, h2, hk => by
    show bindL kindOf ((p, w) :: P.zip vs) m x = _
    unfold bindL
    exact bindL_get (i := i) (List.nodup_cons.mp nd).2 (by simpa using h1) (by simpa using h2) hk
theorem bindC_get {kindOf : Str → Option NameKind} {x : Str} {v : Value} : ∀ {P : List Str} {vs : List Value} {i : Nat} {m : Str → Option Value}, P.Nodup → P[i]? = some x → vs[i]? = some v → kindOf x ≠ some .local →
    bindC kindOf (P.zip vs) m x = some v
  | [], _, _, _, _, h, _, _ => by simp at h
  | _ :: _, [], _, _, _, _, h, _ => by simp at h
  | p :: P, w :: vs, 0, m, nd, h1, h2, hk => by
    simp at h1 h2; subst h1; subst h2
    show bindC kindOf ((p, w) :: P.zip vs) m p = _
    unfold bindC
    rw [bindC_out fun v hv => (List.nodup_cons.mp nd).1 (List.of_mem_zip hv).1, if_neg hk]
    simp
  | p :: P, w :: vs, i + 1, m, nd, h1, h2, hk => by
    show bindC kindOf ((p, w) :: P.zip vs) m x = _
    unfold bindC
    exact bindC_get (i := i) (List.nodup_cons.mp nd).2 (by simpa using h1) (by simpa using h2) hk
noncomputable def start (N : List Str) (vs : List V) : St := vs.map some ++ List.replicate (N.length - vs.length) none
noncomputable def cxOf (CX : CXT) (P : Program) (w : World) (K : PySem.W.Frag) (mg : Str → Option Value) (base : Heap) (N : List Str) (qual : Str) (scope : Scope) (f : Addr) (cd : Value) (A : Around) (outer : List Env) (s : Shared) (H : Hp) (E : XK) : Cx where
  prog := P
  w := w
  K := K
  mg := mg
  base := base
  A := A.deeper (envOfC qual scope s.heap.objs.size f cd)
  N := N
  s₀ := s
  H₀ := H
  env := envOfC qual scope s.heap.objs.size f cd
  outer := outer
  stack := envOfC qual scope s.heap.objs.size f cd :: outer
  ex := []
  calm := true
  fn := fun _ => true
  pn := []
  xe := fun e s' => wpAny (model P w) (A.deeper (envOfC qual scope s.heap.objs.size f cd)) (leaving (envOfC qual scope s.heap.objs.size f cd) e) (fun _ s'' => CX outer H s E e s'') (fun e' s'' => CX outer H s E e' s'') s'
theorem cell_has {sc : Scope} {n : Nat} {x : Str} (h : sc.names.lookup x = some .cell) : ∃ c, (cellsFrom n sc.names []).lookup x = some c := by
  have q := PySem.W.cellsFrom_some sc.names n [] (.inl h)
  exact Option.isSome_iff_exists.mp q
theorem inv_start {CX : CXT} {P : Program} {w : World} {K : PySem.W.Frag} {mg : Str → Option Value} {base : Heap} {N ps : List Str} {qual : Str} {scope : Scope} {f : Addr} {cd : Value} {A : Around} {outer : List Env} {s s1 : Shared} {H : Hp} {E : XK} {us : List Value} {vs : List V}
    (S : FnScope N ps scope) (hd : A.handled = none) (e0 : Env0 P w K mg base A outer s H) (hl : vs.length = ps.length) (r : Vals vs us)
    (x : InCallC s s.heap.objs.size (bindL (envOfC qual scope s.heap.objs.size f cd).kindOf (ps.zip us) fun _ => none) (cellsFrom (s.heap.objs.size + 1) scope.names []) (bindC (envOfC qual scope s.heap.objs.size f cd).kindOf (ps.zip us) fun _ => none) s1) :
    Inv (cxOf CX P w K mg base N qual scope f cd A outer s H E) [] (start N vs) H s1 := by
  have hpl : ps.length ≤ N.length := by have := congrArg List.length S.pre; rw [List.length_take] at this; (first | lia | omega)
  obtain ⟨h1, tk, rfl, hk⟩ := x.done
  have noA : ∀ b : Addr, b ∉ (cxOf CX P w K mg base N qual scope f cd A outer s H E).ex := fun b z => absurd (show b ∈ ([] : List Addr) from z) (by simp)
  refine ⟨⟨e0.mod, S.kind, rfl, rfl, Nat.le_refl _, fun y z c h1 h2 => ?_, fun y hy => ?_, fun y c _ h => ?_, fun _ => hd, Around.frames_deeper e0.frames, .inr ⟨rfl, rfl⟩, fun b z => absurd z (noA b), e0.bs, e0.bsz, fun b _ _ => noA b, fun b z => absurd z (noA b), e0.funs, e0.frf⟩,
    rfl, e0.bare, Un.kept hk, ⟨_, x.toInCall.ns, fun i y v h1 h2 h3 => ?_⟩, fun y c h => ⟨_, x.cell y c h⟩, e0.hok.fresh (Nat.le_refl _), fun y c h => ?_, fun p hp => absurd (show p ∈ ([] : List (Addr × Obj)) from hp) (by simp), e0.hok.kept hk, ?_⟩
  · exact name_of_addr x.apart (PySem.mem_of_lookup h1) (PySem.mem_of_lookup h2)
  · have hy : scope.names.lookup y = some .cell ∨ scope.names.lookup y = some .free := hy
    rcases hy with hy | hy
    · exact cell_has hy
    · exact absurd rfl (S.nofree _ (PySem.mem_of_lookup hy))
  · exact Nat.le_of_lt (x.above y c (PySem.mem_of_lookup h))
  · have hi : i < vs.length := by
      unfold start at h2
      by_cases hi : i < vs.length
      · exact hi
      · rw [List.getElem?_append_right (by simpa using hi)] at h2
        rw [List.getElem?_replicate] at h2
        split at h2 <;> cases h2
    have ha : vs[i]? = some v := by
      unfold start at h2
      rw [List.getElem?_append_left (by simpa using hi), List.getElem?_map] at h2
      cases e : vs[i]? with
      | none => rw [e] at h2; cases h2
      | some a => rw [e] at h2; cases h2; rfl
    obtain ⟨u, hu, rv⟩ := r.get ha
    have hp : ps[i]? = some y := by
      rw [← S.pre, List.getElem?_take_of_lt (by (first | lia | omega))]; exact h1
    have ndP : ps.Nodup := by rw [← S.pre]; exact S.nd.sublist (List.take_sublist _ _)
    refine ⟨u, rv, ?_⟩
    rcases S.par y (List.mem_of_getElem? hp) with k | k
    · exact .inl ⟨k, bindL_get ndP hp hu k⟩
    · obtain ⟨c, e⟩ := cell_has (n := s.heap.objs.size + 1) k
      refine .inr ⟨.inl k, c, e, ?_⟩
      have q := x.cell y c e
      rw [bindC_get ndP hp hu (by show scope.names.lookup y ≠ _; rw [k]; decide)] at q
      exact q
  · exact e0.hok.fresh (Nat.le_of_lt (x.above y c (PySem.mem_of_lookup h)))
  · unfold start
    show _ = N.length
    rw [List.length_append, List.length_map, List.length_replicate]
    (first | lia | omega)
theorem fn_of {CX : CXT} {P : Program} {w : World} {K : PySem.W.Frag} {mg : Str → Option Value} {base : Heap} {k : Nat} {f : Addr} {name qual : Str} {params : Arguments} {body : List Stmt} {scope : Scope} {dV kV doc pm cdv ct oc : Value} {an od : Option Addr}
    {osl : Array (Option Value)} {N ps : List Str} {sp : Sp} (lk : K.lookup f = some ⟨oc, od, .func (PySem.W.fnOf name qual params body scope dV kV doc pm an cdv ct), osl⟩) (hcd : PySem.W.codeIn K cdv qual = true) (S : FnScope N ps scope)
    (len : ∀ vs H Q E, sp vs H Q E → vs.length = ps.length)
    (hbody : ∀ (A : Around) (outer : List Env) (s : Shared) (H : Hp) (vs : List V) (Q : VK) (E : XK), Room k (A.deeper (envOfC qual scope s.heap.objs.size f cdv)) → sp vs H Q E →
      ∃ t, PSs (cxOf CX P w K mg base N qual scope f cdv A outer s H E) body t ∧ t { nx := fun _ H' => Q .non H', rt := Q } (start N vs) H) :
    FnOk P w K mg base CX (k + 1) f (PySem.W.fnOf name qual params body scope dV kV doc pm an cdv ct) ps sp := by
  refine ⟨len, fun A outer s H args us vs Q E hr e0 hb r hsp => ?_⟩
  have hl := len _ _ _ _ hsp
  have KX : K.In s.heap := e0.mod.kin.keeps fun b o e => (e0.bs b o e).1
  have lim : s.heap.NoLimit := e0.mod.nolimit.keeps fun b o e => (e0.bs b o e).1
  have hkind : ∀ y ∈ ps.zip us, scope.names.lookup y.1 = some .local ∨ (scope.names.lookup y.1 = some .cell ∧ ((cellsFrom (s.heap.objs.size + 1) scope.names []).lookup y.1).isSome = true) := fun ⟨n, v⟩ hy => by
    rcases S.par n (List.of_mem_zip hy).1 with q | q
    · exact .inl q
    · exact .inr ⟨q, PySem.W.cellsFrom_some _ _ _ (.inl q)⟩
  refine codeAny_call_function hr.depth (KX _ _ lk) rfl S.co S.gen rfl (PySem.W.codeRec_of KX hcd) (hb _ _ _ _ ?_)
  refine wpAny_newFunctionEnv_cells S.kind hkind fun env he s1 x => ?_
  subst he
  refine ⟨lim.keeps x.toInCall.keep, codeAny_func ?_⟩
  obtain ⟨t, ht, hq⟩ := hbody A outer s H vs Q E (hr.deeper _) hsp
  have I : Inv (cxOf CX P w K mg base N qual scope f cdv A outer s H E) [] (start N vs) H s1 := inv_start S hr.hd e0 hl r x
  refine wpAny_mono (ht [] s1 (start N vs) H _ I hq) (fun fl s' hs => ?_) fun e s' hs => hs
  have fin : ∀ {σ' : St} {H' : Hp} {v : V} {u : Value}, Inv (cxOf CX P w K mg base N qual scope f cdv A outer s H E) [] σ' H' s' → RelV v u → Q v H' → CE outer P w H s Q u s' :=
    fun {σ' H' v u} J rv q => ⟨v, H', J.os, J.bare, J.base, J.hok, rv, q⟩
  cases fl with
  | ret u =>
    obtain ⟨v, σ', H', J, rv, q⟩ := hs
    exact fin J rv q
  | next =>
    obtain ⟨σ', H', J, q⟩ := hs
    exact fin (v := V.non) (u := Value.none) J rfl q
  | brk =>
    obtain ⟨_, _, _, q⟩ := hs
    exact False.elim q
  | cont =>
    obtain ⟨_, _, _, q⟩ := hs
    exact False.elim q
end L2
namespace L2
open PySem PySem.Spec PyProof.Rows
section
variable {X : Cx} {x : Str} {p pos : Pos} {e : Expr} {es : List Expr} {t : TA} {id T : String} {r : List V → Hp → VK → Prop}
noncomputable def tCB (r : List V → Hp → VK → Prop) (t : TA) : TE := fun σ H Q => t σ H fun vs H1 => r vs H1 Q
theorem pe_callB (hc : CallR X (.builtin id) r) (hg : Gl X x) (hm : X.mg x = none) (hv : bootBuiltins x = some (.builtin id)) (ha : PA X (e :: es) t) (hn : x ≠ "__name__" := by decide) (hdb : (x == ("__debug__" : Str)) = false := by decide)
    (he : starEach (e :: es) X.env = (false, eval e X.env) :: starEach es X.env := by rfl) (hpl : (backTo pos (starEach es X.env)).any (·.1) = false := by rfl) : PE X (.Call (.Name x p) (e :: es) [] pos) (tCB r t) := by
  intro pins s σ H Q I h
  refine wpAny_Call_Name_kw (ld_blt I hg hm hv ?_ hn hdb)
  exact PyProof.Rows.callWith_builtin1 (thn (ha pos pins s σ H _ I h) fun us s1 ⟨vs, H1, I1, r1, q1⟩ => hc pins s1 σ H1 vs us Q I1 r1 q1) he hpl
theorem pe_callTy (hc : CallR X (.type T) r) (hg : Gl X x) (hm : X.mg x = none) (hv : bootBuiltins x = some (.type T)) (ha : PA X (e :: es) t) (hn : x ≠ "__name__" := by decide) (hdb : (x == ("__debug__" : Str)) = false := by decide)
    (he : starEach (e :: es) X.env = (false, eval e X.env) :: starEach es X.env := by rfl) (hpl : (backTo pos (starEach es X.env)).any (·.1) = false := by rfl) : PE X (.Call (.Name x p) (e :: es) [] pos) (tCB r t) := by
  intro pins s σ H Q I h
  refine wpAny_Call_Name_kw (ld_blt I hg hm hv ?_ hn hdb)
  exact PyProof.Rows.callWith_type1 (thn (ha pos pins s σ H _ I h) fun us s1 ⟨vs, H1, I1, r1, q1⟩ => hc pins s1 σ H1 vs us Q I1 r1 q1) he hpl
end
end L2
namespace HT
open PySem PyProof.Rows
noncomputable def lexLt : List Int → List Int → Bool
  | [], [] => false
  | [], _ :: _ => true
  | _ :: _, [] => false
  | x :: xs, y :: ys => if x = y then lexLt xs ys else decide (x < y)
theorem lexLt_cons (x y : Int) (xs ys : List Int) : lexLt (x :: xs) (y :: ys) = if x = y then lexLt xs ys else decide (x < y) := rfl
theorem lexLt_nil_nil : lexLt [] [] = false := rfl
theorem lexLt_nil_cons (y : Int) (ys : List Int) : lexLt [] (y :: ys) = true := rfl
theorem lexLt_cons_nil (x : Int) (xs : List Int) : lexLt (x :: xs) [] = false := rfl
theorem eqAt_int (A : Around) (s : Shared) (a : Int) (t : Tok) (c : Int) (u : Tok) : ∃ e, SeqAt.EqAt A s (.int a t) (.int c u) e ∧ (e = true ↔ a = c) :=
  ⟨(a == c), SeqAt.EqAt.int_int a t c u, by simp⟩
theorem rcLt_int (A : Around) (s : Shared) (a : Int) (t : Tok) (c : Int) (u : Tok) (prog : Program) (w : World) (E : Value → Shared → Prop) (Q : Value → Shared → Prop) (h : Q (.bool (decide (a < c))) s) :
    wpAny (model prog w) A (richCompare .Lt (.int a t) (.int c u)) Q E s :=
  (PyProof.Rows.lt_int h : wpAny (model prog w) A (compareOp .Lt (.int a t) (.int c u)) Q E s)
section
open PySem.SeqAt
open PySem.AutoSeq1 (wpAny_loadPart')
open PySem.MeetsSeq PySem.MeetsSeq2 PySem.MeetsSeq3
theorem tuple_lt_ints (l b : Addr) (items items2 : Array Value) (n n2 : Nat) (dd dd2 : Option Addr) (sl sl2 : Array (Option Value)) (ns ms : List Int) (hi : IntsAre items.toList ns) (hj : IntsAre items2.toList ms) :
    Meets (Builtin.«tuple.__lt__» ⟨[.ref l, .ref b], []⟩)
      (fun _ R s => s.heap.get? l = some { cls := .type "tuple", dict := dd, data := .seq items n, slots := sl } ∧ s.heap.get? b = some { cls := .type "tuple", dict := dd2, data := .seq items2 n2, slots := sl2 } ∧
        R (.ok (.ret (.bool (lexLt ns ms)))) s) :=
  .of_wp fun prog w A R s h => by
    obtain ⟨hp, g, d, tk, os⟩ := s; obtain ⟨hl, hb, h⟩ := h
    have f2 := AutoSeq1.sub_tuple_tuple
    have z1 : items.size = ns.length := by rw [← hi.length]; simp
    have z2 : items2.size = ms.length := by rw [← hj.length]; simp
    wp_walk using wpAny_loadPart' hl, wpAny_loadPart' hb, wpAny_forIn_list _ (fun rest b s' => b.1 = none ∧ s' = ⟨hp, g, d, tk, os⟩ ∧ ∃ (vs ws : List Value) (ns' ms' : List Int), rest = vs.zip ws ∧
      IntsAre vs ns' ∧ IntsAre ws ms' ∧ ns'.length + items2.size = ms'.length + items.size ∧ R (.ok (.ret (.bool (lexLt ns' ms')))) ⟨hp, g, d, tk, os⟩) _
    case turn =>
      rintro ⟨y, x⟩ rest b s' ⟨hb', rfl, vs, ws, ns', ms', hz, hvi, hwi, hlen, hR⟩
      cases hvi with
      | nil => rw [List.zip_nil_left] at hz; cases hz
      | cons a t hvi' =>
        cases hwi with
        | nil => rw [List.zip_nil_right] at hz; cases hz
        | cons c u hwi' =>
          rw [List.zip_cons_cons] at hz
          injection hz with hyx hrest
          injection hyx with hy hx
          subst hy hx
          rw [lexLt_cons] at hR
          simp only [List.length_cons] at hlen
          obtain ⟨e, he, hiff⟩ := eqAt_int A.in1 ⟨hp, g, d, tk, os⟩ a t c u
          refine wpAny_bind (he prog w _ _ ?_)
          cases e with
          | true =>
            rw [if_pos (hiff.mp rfl)] at hR
            wp_walk
            exact ⟨rfl, rfl, _, _, _, _, hrest, hvi', hwi', by (first | lia | omega), hR⟩
          | false =>
            rw [if_neg (fun q => absurd (hiff.mpr q) Bool.false_ne_true)] at hR
            have hri := rcLt_int A.in1 ⟨hp, g, d, tk, os⟩ a t c u prog w
            wp_walk using hri
            exact ⟨_, rfl, by simpa using hR⟩
    case fin =>
      rintro ⟨b1, b2⟩ s' ⟨hb', rfl, vs, ws, ns', ms', hz, hvi, hwi, hlen, hR⟩
      simp only at hb'
      subst hb'
      have hv : lexLt ns' ms' = decide (items.size < items2.size) := by
        cases hvi with
        | nil =>
          cases hwi with
          | nil =>
            simp only [List.length_nil] at hlen
            rw [lexLt_nil_nil]
            exact (decide_eq_false (by (first | lia | omega))).symm
          | cons c u hw =>
            simp only [List.length_nil, List.length_cons] at hlen
            rw [lexLt_nil_cons]
            exact (decide_eq_true (by (first | lia | omega))).symm
        | cons a t hv =>
          cases hwi with
          | nil =>
            simp only [List.length_nil, List.length_cons] at hlen
            rw [lexLt_cons_nil]
            exact (decide_eq_false (by (first | lia | omega))).symm
          | cons c u hw =>
            rw [List.zip_cons_cons] at hz
            cases hz
      rw [hv] at hR
      wp_walk
      exact ⟨_, rfl, by simpa [Builtin.Tuple.tupleCompareSizes] using hR⟩
    case h =>
      exact ⟨rfl, rfl, items.toList, items2.toList, ns, ms, rfl, hi, hj, by (first | lia | omega), h⟩
end
section
variable {prog : Program} {w : World} {A : Around} {E : Value → Shared → Prop} {s : Shared}
theorem lt_tupInts {l b : Addr} {items items2 : Array Value} {ns ms : List Int} {Q : Value → Shared → Prop} (hl : IsTup s.heap l items) (hb : IsTup s.heap b items2) (hi : IntsAre items.toList ns) (hj : IntsAre items2.toList ms)
    (hu : A.units < cLine) (h : Q (.bool (lexLt ns ms)) s) : wpAny (model prog w) A (compareOp .Lt (.ref l) (.ref b)) Q E s := by
  obtain ⟨⟨cls, dd, data, sl⟩, ho, hc, n, hd⟩ := id hl
  obtain ⟨⟨cls2, dd2, data2, sl2⟩, ho2, hc2, n2, hd2⟩ := id hb
  simp only at hc hd hc2 hd2
  subst hc hd hc2 hd2
  exact richCompare_meets_room (op := .Lt) ⟨_, ho, rfl⟩ ⟨_, ho2, rfl⟩ PySem.F.slot_tuple_lt PySem.F.entry_tuple_lt (PySem.F.args_tuple_lt_2 _ _) (tuple_lt_ints l b items items2 n n2 dd dd2 sl sl2 ns ms hi hj)
    ⟨ho, ho2, show Value.bool (lexLt ns ms) ≠ Value.notImplemented ∧ Q (.bool (lexLt ns ms)) s from ⟨(fun x => nomatch x), h⟩⟩ hu
theorem cat_tup {t b : Addr} {vs ws : List Value} {Q : Value → Shared → Prop} (ht : IsTup s.heap t vs.toArray) (hb : IsTup s.heap b ws.toArray) (hv : vs ≠ [])
    (h1 : ws = [] → Q (.ref t) s) (h2 : ws ≠ [] → Q (.ref s.heap.objs.size) { s with heap := s.heap.push { cls := .type "tuple", data := .seq (vs ++ ws).toArray } })
    (hsz : vs.length + ws.length ≤ sizeLine) : wpAny (model prog w) A (binaryOp .Add (.ref t) (.ref b)) Q E s := by
  obtain ⟨⟨cls, dd, data, sl⟩, ho, hc, n, hd⟩ := id ht
  obtain ⟨⟨cls2, dd2, data2, sl2⟩, ho2, hc2, n2, hd2⟩ := id hb
  simp only at hc hd hc2 hd2
  subst hc hd hc2 hd2
  have e : vs.toArray ++ ws.toArray = (vs ++ ws).toArray := by simp
  by_cases hw : ws = []
  · exact concat_meets ⟨_, ho, rfl⟩ ⟨_, ho2, rfl⟩ noFill_tuple_add seq_tuple_add PySem.F.slot_tuple_add PySem.F.entry_tuple_add (PySem.F.args_tuple_add_2 _ _)
      (tuple_addW1 t b vs.toArray ws.toArray n n2 dd dd2 sl sl2 (by simpa using hv) (by simp [hw])) ⟨ho, ho2, h1 hw⟩
  · refine concat_meets ⟨_, ho, rfl⟩ ⟨_, ho2, rfl⟩ noFill_tuple_add seq_tuple_add PySem.F.slot_tuple_add PySem.F.entry_tuple_add (PySem.F.args_tuple_add_2 _ _)
      (tuple_addW2 t b vs.toArray ws.toArray n n2 dd dd2 sl sl2 (by simpa using hv) (by simpa using hw) (by rw [List.size_toArray, List.size_toArray]; exact hsz)) ⟨ho, ho2, ?_⟩
    rw [e]
    exact h2 hw
noncomputable def sIx (n d : Nat) : Option Int → Nat
  | none => d
  | some v => if v < 0 then (v + (n : Int)).toNat else min v.toNat n
theorem sIx_nat (n d k : Nat) : sIx n d (some (k : Int)) = min k n := by
  show (if (k : Int) < 0 then ((k : Int) + (n : Int)).toNat else min (k : Int).toNat n) = min k n
  rw [if_neg (by (first | lia | omega)), Int.toNat_natCast]
theorem sIx_le (n d : Nat) (hd : d ≤ n) (o : Option Int) : sIx n d o ≤ n := by
  cases o with
  | none => exact hd
  | some v =>
    show (if v < 0 then (v + (n : Int)).toNat else min v.toNat n) ≤ n
    by_cases hv : v < 0
    · rw [if_pos hv]; (first | lia | omega)
    · rw [if_neg hv]; exact Nat.min_le_right _ _
theorem clip_eq (v : Int) (n d : Nat) : (if v < 0 then max (v + (n : Int)) 0 else min v (n : Int)) = ((sIx n d (some v) : Nat) : Int) := by
  show (if v < 0 then max (v + (n : Int)) 0 else min v (n : Int)) = (((if v < 0 then (v + (n : Int)).toNat else min v.toNat n) : Nat) : Int)
  by_cases hv : v < 0
  · simp only [if_pos hv]; (first | lia | omega)
  · simp only [if_neg hv]; (first | lia | omega)
theorem adjust_gen (lo hi : Option Int) (n : Nat) : Builtin.Slice.sliceAdjust lo hi 1 (n : Int) = (((sIx n 0 lo : Nat) : Int), ((sIx n n hi : Nat) : Int)) := by
  have h1 : ¬ ((1 : Int) < 0) := by (first | lia | omega)
  unfold Builtin.Slice.sliceAdjust
  simp only [h1, if_false]
  refine Prod.ext ?_ ?_
  · cases lo with
    | none => rfl
    | some v => exact clip_eq v n 0
  · cases hi with
    | none => rfl
    | some v => exact clip_eq v n n
theorem places_gen (i j : Nat) : Builtin.Slice.slicePlaces (i : Int) (j : Int) 1 = j - i := by
  unfold Builtin.Slice.slicePlaces
  have h1 : (1 : Int) > 0 := by (first | lia | omega)
  simp only [h1, if_true, Int.ediv_one]
  split <;> (first | lia | omega)
theorem slicePart_ {v : Value} {o : Option Int} {Q : Option Int → Shared → Prop} (p : IsPart v o) (h : Q o s) : wpAny (model prog w) A (Builtin.Slice.slicePartIndex v) Q E s := by
  cases p with
  | none => exact slicePart_none h
  | int i t => exact slicePart_int h
theorem sliceApplied_gen {sl : Addr} {vl vu : Value} {lo hi : Option Int} {n : Nat} {Q : Int × Int × Nat → Shared → Prop} (hs : s.heap.IsSliceOf sl vl vu .none) (pl : IsPart vl lo) (pu : IsPart vu hi)
    (h : Q (((sIx n 0 lo : Nat) : Int), 1, sIx n n hi - sIx n 0 lo) s) : wpAny (model prog w) A (Builtin.Slice.sliceApplied (.ref sl) (pure (n : Int))) Q E s := by
  obtain ⟨os, hos, hcs, hds⟩ := id hs
  unfold Builtin.Slice.sliceApplied Builtin.Slice.sliceFields
  refine wpAny_bind (wpAny_bind (wpAny_field hos hds (x := vl) rfl (wpAny_bind (wpAny_field hos hds (x := vu) rfl (wpAny_bind (wpAny_field hos hds (x := .none) rfl (wpAny_pure ?_)))))))
  refine wpAny_bind (slicePart_none ?_)
  show wpAny _ _ (if ((1 : Int) == 0) = true then _ else _) _ _ s
  rw [if_neg (by decide)]
  refine wpAny_bind (slicePart_ pl (wpAny_bind (slicePart_ pu (wpAny_bind (wpAny_pure ?_)))))
  show wpAny _ _ (match Builtin.Slice.sliceAdjust lo hi 1 (n : Int) with | (lo, hi) => pure (lo, (1 : Int), Builtin.Slice.slicePlaces lo hi 1)) _ _ s
  rw [adjust_gen lo hi n]
  show wpAny _ _ (pure (((sIx n 0 lo : Nat) : Int), (1 : Int), Builtin.Slice.slicePlaces ((sIx n 0 lo : Nat) : Int) ((sIx n n hi : Nat) : Int) 1)) _ _ s
  rw [places_gen]
  exact wpAny_pure h
theorem pick_gen (xs : Array Value) (i k : Nat) : ((List.range k).filterMap fun (m : Nat) => xs[((i : Int) + (m : Int) * 1).toNat]?).toArray = ((xs.toList.drop i).take k).toArray := by
  have e : (fun (m : Nat) => xs[((i : Int) + (m : Int) * 1).toNat]?) = fun m => xs[i + m]? := by
    funext m
    have : ((i : Int) + (m : Int) * 1).toNat = i + m := by (first | lia | omega)
    rw [this]
  rw [e]
  have := pick_run xs i k
  rw [List.filterMap_map] at this
  have e2 : ((fun x => xs[x]?) ∘ fun x => i + x) = fun m => xs[i + m]? := rfl
  rw [e2] at this
  rw [this]
theorem getItem_tuple_cut {t sl : Addr} {items : Array Value} {vl vu : Value} {lo hi : Option Int} {Q : Value → Shared → Prop} (ht : IsTup s.heap t items) (hs : s.heap.IsSliceOf sl vl vu .none) (pl : IsPart vl lo) (pu : IsPart vu hi)
    (hw : ¬ (sIx items.size 0 lo = 0 ∧ sIx items.size items.size hi = items.size))
    (h : Q (.ref s.heap.objs.size) { s with heap := s.heap.push { cls := .type "tuple", data := .seq ((items.toList.drop (sIx items.size 0 lo)).take (sIx items.size items.size hi - sIx items.size 0 lo)).toArray } })
    (hsz : items.size ≤ sizeLine) : wpAny (model prog w) A (getItem (.ref t) (.ref sl)) Q E s := by
  have htake : sizeOk (.seq ((items.toList.drop (sIx items.size 0 lo)).take (sIx items.size items.size hi - sIx items.size 0 lo)).toArray) := by
    show ((items.toList.drop (sIx items.size 0 lo)).take (sIx items.size items.size hi - sIx items.size 0 lo)).toArray.size ≤ sizeLine
    rw [List.size_toArray, List.length_take, List.length_drop, Array.length_toList]
    (first | lia | omega)
  have hj : sIx items.size items.size hi ≤ items.size := sIx_le _ _ (Nat.le_refl _) hi
  obtain ⟨os, hos, hcs, hds⟩ := id hs
  have hTs : s.TypeIs (.ref sl) "slice" := ⟨os, hos, hcs⟩
  unfold getItem
  try with_reducible refine wpAny_holding ?_
  first | refine wpAny_bind (wpAny_pure ?_) | skip
  refine wpAny_bind (wpAny_sequenceKey ht.typeIs (by decide) ?_)
  refine wpAny_bind (wpAny_callSpecial?_slot (name := Str.ofString "__getitem__") ht.typeIs PyProof.Rows.slot_tuple_getitem
    (wpAny_call_entry PyProof.Rows.slot_tuple_getitem ht.typeIs entry_tuple_getitem ?_ (args_tuple_getitem _ _)))
  show wpAny _ _ (Builtin.Tuple.tupleItemsOf (.ref t) >>= _) _ _ s
  refine wpAny_bind (tupleItemsOf_ ht ?_)
  refine wpAny_bind (wpAny_typeOf hTs ?_)
  rw [if_pos (by decide)]
  refine wpAny_bind (sliceApplied_gen hs pl pu ?_)
  have hno : ¬ ((((sIx items.size 0 lo : Nat) : Int) == 0 && (1 : Int) == 1 && (sIx items.size items.size hi - sIx items.size 0 lo) == items.size) = true) := by
    intro q
    rw [Bool.and_eq_true, Bool.and_eq_true] at q
    have q1 : ((sIx items.size 0 lo : Nat) : Int) = 0 := eq_of_beq q.1.1
    have q2 : sIx items.size items.size hi - sIx items.size 0 lo = items.size := eq_of_beq q.2
    exact hw ⟨by (first | lia | omega), by (first | lia | omega)⟩
  show wpAny _ _ (if (((sIx items.size 0 lo : Nat) : Int) == 0 && (1 : Int) == 1 && (sIx items.size items.size hi - sIx items.size 0 lo) == items.size) = true then _ else _) _ _ s
  rw [if_neg hno, pick_gen]
  first
    | exact wpAny_bind (m := Builtin.Tuple.tupleExact _) (wpAny_newObj_type (wpAny_pure ⟨_, rfl, wpAny_pure h⟩) htake)
    | exact wpAny_bind (m := Builtin.Tuple.tupleExact _) (wpAny_newObj_type (wpAny_bind (wpAny_pure (wpAny_pure ⟨_, rfl, wpAny_pure h⟩))) htake)
    | exact wpAny_bind (wpAny_bind (m := Builtin.Tuple.tupleExact _) (wpAny_newObj_type (wpAny_pure (wpAny_pure ⟨_, rfl, wpAny_pure h⟩)) htake))
    | exact wpAny_bind (wpAny_bind (m := Builtin.Tuple.tupleExact _) (wpAny_newObj_type (wpAny_pure ⟨_, rfl, wpAny_pure h⟩) htake))
end
end HT
namespace L2
open PySem PySem.Spec PyProof.Rows
noncomputable abbrev TO := St → Hp → (Option Int → Hp → Prop) → Prop
noncomputable def PO (X : Cx) (e : Option Expr) (t : TO) : Prop :=
  ∀ (pins : List (Addr × Obj)) (s : Shared) (σ : St) (H : Hp) (Q : Option Int → Hp → Prop), Inv X pins σ H s → t σ H Q →
    wpAny (model X.prog X.w) X.A (evalPart e X.env) (fun u s' => ∃ o H', Inv X pins σ H' s' ∧ IsPart u o ∧ Q o H') X.xe s
noncomputable def tNoPart : TO := fun _ H Q => Q none H
noncomputable def tPart (t : TE) : TO := fun σ H Q => t σ H fun x H1 => ∃ i, x = .int i ∧ Q (some i) H1
theorem intsAre_of {ns : List Int} : ∀ {us : List Value}, Vals (ns.map V.int) us → IntsAre us ns := by
  induction ns with
  | nil => intro us r; rw [List.map_nil] at r; cases r; exact .nil
  | cons n ns ih =>
    intro us r
    rw [List.map_cons] at r
    cases r with
    | cons r1 r2 =>
      obtain ⟨t, e⟩ := r1
      subst e
      exact .cons n t (ih r2)
section
variable {X : Cx} {e : Expr} {te : TE} {lo hi : Option Expr} {tl th : TO} {pos p2 : Pos}
theorem po_none : PO X none tNoPart := by
  intro pins s σ H Q I h
  rw [evalPart_none]
  exact wpAny_pure ⟨none, H, I, .none, h⟩
theorem po_some (h : PE X e te) : PO X (some e) (tPart te) := by
  intro pins s σ H Q I hw
  rw [evalPart_some]
  refine thn (h pins s σ H _ I hw) fun u s1 ⟨x, H1, I1, r1, q1⟩ => ?_
  obtain ⟨i, rfl, q⟩ := q1
  obtain ⟨t, rfl⟩ := r1
  exact ⟨some i, H1, I1, .int i t, q⟩
noncomputable def SlR (X : Cx) (r : V → Option Int → Option Int → Hp → VK → Prop) : Prop :=
  ∀ (pins : List (Addr × Obj)) (s : Shared) (σ : St) (H : Hp) (x : V) (v vl vu : Value) (lo hi : Option Int) (sl : Addr) (Q : VK), Inv X pins σ H s → RelV x v → s.heap.IsSliceOf sl vl vu .none → IsPart vl lo → IsPart vu hi → r x lo hi H Q →
    ∃ T id, typeLookup (.type T) "__getitem__" = pure (some (.builtin id)) ∧ s.TypeIs v T ∧ wpAny (model X.prog X.w) X.A (getItem v (.ref sl)) (EP X pins σ Q) X.xe s
noncomputable def tSl (r : V → Option Int → Option Int → Hp → VK → Prop) (te : TE) (tl th : TO) : TE := fun σ H Q => te σ H fun x H1 => tl σ H1 fun l H2 => th σ H2 fun u H3 => r x l u H3 Q
theorem pe_slice {r : V → Option Int → Option Int → Hp → VK → Prop} (hr : SlR X r) (he : PE X e te) (hl : PO X lo tl) (hu : PO X hi th) : PE X (.Subscript e (.Slice lo hi none p2) pos) (tSl r te tl th) := by
  intro pins s σ H Q I h
  refine Subscript_ (thn (he pins s σ H _ I h) fun v s1 ⟨x, H1, I1, r1, q1⟩ => ?_)
  refine wpAny_Slice (thn (hl pins s1 σ H1 _ I1 q1) fun vl s2 ⟨l, H2, I2, pl, q2⟩ => thn (hu pins s2 σ H2 _ I2 q2) fun vu s3 ⟨u, H3, I3, pu, q3⟩ => ?_)
  rw [evalPart_none]
  refine wpAny_pure ?_
  have I4 : Inv X pins σ H3 { s3 with heap := s3.heap.push { cls := .type "slice", data := .fields #[vl, vu, .none] } } := I3.kept (t' := s3.toks) fun b ob q => Heap.get?_push_of_some _ q
  obtain ⟨T, id, hT, ht, hg⟩ := hr pins { s3 with heap := s3.heap.push { cls := .type "slice", data := .fields #[vl, vu, .none] } } σ H3 x v vl vu l u s3.heap.objs.size Q I4 r1 (Heap.IsSliceOf.new ..) pl pu q3
  show wpAny (model X.prog X.w) X.A (subscriptTail e (.Slice lo hi none p2) v (.ref s3.heap.objs.size)) (EP X pins σ Q) X.xe { s3 with heap := s3.heap.push { cls := .type "slice", data := .fields #[vl, vu, .none] } }
  exact tail_any (ops := [.ref s3.heap.objs.size, v]) ht hT hg (by with_unfolding_all rfl)
noncomputable def cutV (xs : List V) (lo hi : Option Int) : List V := (xs.drop (HT.sIx xs.length 0 lo)).take (HT.sIx xs.length xs.length hi - HT.sIx xs.length 0 lo)
theorem cutV_length (xs : List V) (lo hi : Option Int) : (cutV xs lo hi).length ≤ xs.length := by
  unfold cutV
  rw [List.length_take, List.length_drop]
  (first | lia | omega)
noncomputable def rLtT (K : PySem.W.Frag) : R2 := fun x y H Q => ∃ a b ns ms, x = .ref a ∧ y = .ref b ∧ SqT K H a (ns.map V.int) ∧ SqT K H b (ms.map V.int) ∧ Q (.bl (HT.lexLt ns ms)) H
theorem op_ltT (hu : X.A.units < cLine) : OpR X (compareOp .Lt) (rLtT X.K) := by
  intro pins s σ H x y v u Q I rx ry h
  obtain ⟨a, b, ns, ms, rfl, rfl, ha, hb, q⟩ := h
  cases rx
  cases ry
  obtain ⟨its, r1, p1, _⟩ := I.tuple ha
  obtain ⟨its2, r2, p2, _⟩ := I.tuple hb
  have i1 : IntsAre its.toArray.toList ns := intsAre_of r1
  have i2 : IntsAre its2.toArray.toList ms := intsAre_of r2
  exact HT.lt_tupInts p1 p2 i1 i2 hu ⟨.bl (HT.lexLt ns ms), H, I, rfl, q⟩
theorem Vals.nil_iff {xs : List V} {us : List Value} (r : Vals xs us) : us = [] ↔ xs = [] := by
  cases r with
  | nil => simp
  | cons _ _ => simp
end
end L2
namespace L2
open PySem PySem.Spec PyProof.Rows
noncomputable def ixN (n : Nat) (i : Int) : Option Nat := if 0 ≤ i then (if i < n then some i.toNat else none) else if -(n : Int) ≤ i then some (i + n).toNat else none
noncomputable def atI {α : Type} (xs : List α) (i : Int) : Option α := (ixN xs.length i).bind fun j => xs[j]?
theorem ixN_seq {n : Nat} {i : Int} {j : Nat} (h : ixN n i = some j) : seqIndex? i n = some j ∧ j < n ∧ -(n : Int) ≤ i ∧ i < n := by
  unfold ixN at h
  by_cases h0 : 0 ≤ i
  · rw [if_pos h0] at h
    by_cases h1 : i < n
    · rw [if_pos h1] at h
      have e : i.toNat = j := Option.some.inj h
      exact ⟨by rw [seqIndex_of h0 h1, e], by (first | lia | omega), by (first | lia | omega), h1⟩
    · rw [if_neg h1] at h; cases h
  · rw [if_neg h0] at h
    by_cases h1 : -(n : Int) ≤ i
    · rw [if_pos h1] at h
      have e : (i + n).toNat = j := Option.some.inj h
      exact ⟨by rw [seqIndex_neg (by (first | lia | omega)) h1, e], by (first | lia | omega), h1, by (first | lia | omega)⟩
    · rw [if_neg h1] at h; cases h
theorem atI_get {α : Type} {xs : List α} {i : Int} {v : α} (h : atI xs i = some v) : ∃ j, seqIndex? i xs.length = some j ∧ xs[j]? = some v ∧ j < xs.length ∧ -(xs.length : Int) ≤ i ∧ i < xs.length := by
  unfold atI at h
  cases e : ixN xs.length i with
  | none => rw [e] at h; cases h
  | some j =>
    rw [e] at h
    obtain ⟨h1, h2, h3, h4⟩ := ixN_seq e
    exact ⟨j, h1, h, h2, h3, h4⟩
theorem atI_nat {α : Type} {xs : List α} {j : Nat} {v : α} (h : xs[j]? = some v) : atI xs (j : Int) = some v := by
  have hj : j < xs.length := (List.getElem?_eq_some_iff.mp h).1
  have e : ixN xs.length (j : Int) = some j := by
    unfold ixN
    rw [if_pos (by (first | lia | omega)), if_pos (by (first | lia | omega))]; simp
  unfold atI; rw [e]; exact h
theorem atI_last {α : Type} (xs : List α) (v : α) : atI (xs ++ [v]) (-1) = some v := by
  have hl : (xs ++ [v]).length = xs.length + 1 := by simp
  have e : ixN (xs ++ [v]).length (-1) = some xs.length := by
    unfold ixN
    rw [hl, if_neg (by decide), if_pos (by (first | lia | omega))]
    congr 1
    (first | lia | omega)
  unfold atI
  rw [e]
  show (xs ++ [v])[xs.length]? = some v
  simp
noncomputable def PlainIx (b : Expr) : Prop := ∀ o i, subscripted b false o i = operate [o, i] (getItem o i)
noncomputable def IxR (X : Cx) (r : R2) : Prop :=
  ∀ (value slice : Expr) (pins : List (Addr × Obj)) (s : Shared) (σ : St) (H : Hp) (x y : V) (v u : Value) (Q : VK), Inv X pins σ H s → RelV x v → RelV y u → r x y H Q →
    subscripted slice false v u = operate [v, u] (getItem v u) → wpAny (model X.prog X.w) X.A (subscriptTail value slice v u) (EP X pins σ Q) X.xe s
noncomputable def MtR (X : Cx) (id : String) (r : V → List V → Hp → VK → Prop) : Prop :=
  ∀ (pins : List (Addr × Obj)) (s : Shared) (σ : St) (H : Hp) (x : V) (xs : List V) (v : Value) (us : List Value) (Q : VK), Inv X pins σ H s → RelV x v → Vals xs us → r x xs H Q →
    wpAny (model X.prog X.w) X.A (call (.builtin id) (v :: us)) (EP X pins σ Q) X.xe s
section
variable {X : Cx} {a b : Expr} {ta tb : TE} {pos : Pos}
theorem pe_ix {r : R2} (hr : IxR X r) (ha : PE X a ta) (hb : PE X b tb) (hs : PlainIx b) : PE X (.Subscript a b pos) (tOp r ta tb) := by
  intro pins s σ H Q I h
  exact Subscript_ (binT ha hb I h fun v u s2 x y H2 I2 rx ry q => hr a b pins s2 σ H2 x y v u Q I2 rx ry q (hs _ _))
noncomputable def rIxL (K : PySem.W.Frag) : R2 := fun x y H Q => ∃ p xs i v, x = .ref p ∧ y = .int i ∧ SqL K H p xs ∧ atI xs i = some v ∧ Q v H
noncomputable def rIxT (K : PySem.W.Frag) : R2 := fun x y H Q => ∃ p xs i v, x = .ref p ∧ y = .int i ∧ SqT K H p xs ∧ atI xs i = some v ∧ Q v H
theorem ix_list : IxR X (rIxL X.K) := by
  intro value slice pins s σ H x y v u Q I rx ry h hs
  obtain ⟨p, xs, i, z, rfl, rfl, hq, he, q⟩ := h
  cases rx
  obtain ⟨t, rfl⟩ := ry
  obtain ⟨its, r, pl, hz⟩ := I.list hq
  obtain ⟨j, h1, h2, h3, h4, h5⟩ := atI_get he
  obtain ⟨w, ew, rw'⟩ := r.get h2
  have hl := r.length
  have hn := line63
  have fin : EP X pins σ Q w s := ⟨z, H, I, rw', q⟩
  by_cases h0 : 0 ≤ i
  · have hj : i.toNat = j := by
      rw [seqIndex_of h0 h5] at h1
      exact Option.some.inj h1
    exact item_listR pl.isList h0 (by (first | lia | omega)) (by rw [hj]; simpa using ew) fin hs
  · have hj : (i + (its.toArray.size : Int)).toNat = j := by
      rw [seqIndex_neg (by (first | lia | omega)) h4] at h1
      rw [List.size_toArray, ← hl]
      exact Option.some.inj h1
    exact subscriptTail_builtinR (x := w) pl.isList.typeIs slot_list_getitem.lookup
      (wpAny_getItem_list_neg (Q := fun r s' => r = w ∧ EP X pins σ Q r s') pl.isList (by (first | lia | omega)) (by rw [List.size_toArray] <;> (first | lia | omega)) (by (first | lia | omega)) (by rw [hj]; simpa using ew) ⟨rfl, fin⟩) hs
theorem ix_tup : IxR X (rIxT X.K) := by
  intro value slice pins s σ H x y v u Q I rx ry h hs
  obtain ⟨p, xs, i, z, rfl, rfl, hq, he, q⟩ := h
  cases rx
  obtain ⟨t, rfl⟩ := ry
  obtain ⟨its, r, pl, hz⟩ := I.tuple hq
  obtain ⟨j, h1, h2, h3, h4, h5⟩ := atI_get he
  obtain ⟨w, ew, rw'⟩ := r.get h2
  have hl := r.length
  have hn := line63
  have fin : EP X pins σ Q w s := ⟨z, H, I, rw', q⟩
  exact subscriptTail_builtinR (x := w) pl.typeIs slot_tuple_getitem.lookup
    (getItem_tuple (j := j) (Q := fun r s' => r = w ∧ EP X pins σ Q r s') pl (by (first | lia | omega)) (by (first | lia | omega)) (by rw [List.size_toArray, ← hl]; exact h1) (by simpa using ew) ⟨rfl, fin⟩) hs
theorem mapSeq_set (its : List Value) (n j : Nat) (u : Value) : Obj.mapSeq (·.setIfInBounds j u) { cls := .type "list", data := .seq its.toArray n } = { cls := .type "list", data := .seq (its.set j u).toArray n } := by
  simp [Obj.mapSeq]
theorem Inv.lst {pins : List (Addr × Obj)} {σ : St} {H : Hp} {s : Shared} {p : Addr} {xs : List V} (I : Inv X pins σ H s) (h : H p = some (.lst xs)) :
    ∃ (its : List Value) (n : Nat), Vals xs its ∧ s.heap.get? p = some { cls := .type "list", data := .seq its.toArray n } ∧ xs.length ≤ sizeLine := by
  obtain ⟨z, its, n, r, e⟩ := I.hok p _ h
  exact ⟨its, n, r, e, z⟩
theorem Inv.lstUpd {pins : List (Addr × Obj)} {σ : St} {H : Hp} {s : Shared} {p : Addr} {xs ys : List V} {its its' : List Value} {n n' : Nat} {f : Obj → Obj} (I : Inv X pins σ H s) (h : H p = some (.lst xs))
    (ho : s.heap.get? p = some { cls := .type "list", data := .seq its.toArray n }) (hf : f { cls := .type "list", data := .seq its.toArray n } = { cls := .type "list", data := .seq its'.toArray n' }) (r : Vals ys its') (hz : ys.length ≤ sizeLine) (t : Nat) :
    Inv X pins σ (upd H p (.lst ys)) { s with heap := s.heap.update p f, toks := t } := by
  have e : (s.heap.update p f).get? p = some { cls := .type "list", data := .seq its'.toArray n' } := by
    rw [Heap.get?_update_self f ho (by rw [hf] <;> rfl), hf]
  refine I.write (x := p) (e := p) (by rw [h]; trivial) (.inl rfl) (fun b u hb q => (Heap.get?_update_other _ _ (Ne.symm hb)).trans q) ⟨_, e⟩ ?_
  exact ⟨hz, its', n', r, e⟩
noncomputable def rSetL : V → V → V → Hp → (Hp → Prop) → Prop := fun o i v H Q => ∃ p xs k j, o = .ref p ∧ i = .int k ∧ H p = some (.lst xs) ∧ ixN xs.length k = some j ∧ Q (upd H p (.lst (xs.set j v)))
theorem set_list : PSet X rSetL := by
  intro pins s σ H o i v ov iv u Q I ro ri rv h
  obtain ⟨p, xs, k, j, rfl, rfl, hp, hj, q⟩ := h
  cases ro
  obtain ⟨t, rfl⟩ := ri
  obtain ⟨its, n, r, ho, hz⟩ := I.lst hp
  obtain ⟨h1, h2, h3, h4⟩ := ixN_seq hj
  have hl := r.length
  have hn := line63
  have I' : Inv X pins σ (upd H p (.lst (xs.set j v))) { s with heap := s.heap.update p (Obj.mapSeq (·.setIfInBounds j u)) } :=
    I.lstUpd hp ho (mapSeq_set its n j u) (r.set rv j) (by rw [List.length_set]; exact hz) s.toks
  by_cases h0 : 0 ≤ k
  · have hk : k.toNat = j := by
      rw [seqIndex_of h0 h4] at h1
      exact Option.some.inj h1
    exact PySem.W.ki_setAt ho h0 (by (first | lia | omega)) (by rw [List.size_toArray, ← hl]; exact h4) (by rw [hk]; exact ⟨_, I', q⟩)
  · have hk : (k + (its.toArray.size : Int)).toNat = j := by
      rw [seqIndex_neg (by (first | lia | omega)) h3] at h1
      rw [List.size_toArray, ← hl]
      exact Option.some.inj h1
    exact PySem.W.ki_setBack ho (by (first | lia | omega)) (by rw [List.size_toArray, ← hl]; exact h3) (by (first | lia | omega)) (by rw [hk]; exact ⟨_, I', q⟩)
theorem slice_bounds (lo hi : Option Int) (n : Nat) : (sliceBounds lo hi none n).1 = ((HT.sIx n 0 lo : Nat) : Int) ∧ (sliceBounds lo hi none n).2.1 = ((HT.sIx n n hi : Nat) : Int) ∧ (sliceBounds lo hi none n).2.2 = 1 := by
  refine ⟨?_, ?_, rfl⟩
  · cases lo with
    | none => simp [sliceBounds, HT.sIx]
    | some i =>
      simp only [sliceBounds, HT.sIx, Option.getD_none, show (1 : Int) > 0 by decide, if_true]
      by_cases h : i < 0
      · simp only [h, if_true] <;> (first | lia | omega)
      · simp only [h, if_false] <;> (first | lia | omega)
  · cases hi with
    | none => simp [sliceBounds, HT.sIx]
    | some i =>
      simp only [sliceBounds, HT.sIx, Option.getD_none, show (1 : Int) > 0 by decide, if_true]
      by_cases h : i < 0
      · simp only [h, if_true] <;> (first | lia | omega)
      · simp only [h, if_false] <;> (first | lia | omega)
theorem slicePick_cut (its : List Value) (lo hi : Option Int) : slicePick its.toArray lo hi none = ((its.drop (HT.sIx its.length 0 lo)).take (HT.sIx its.length its.length hi - HT.sIx its.length 0 lo)).toArray := by
  obtain ⟨h1, h2, h3⟩ := slice_bounds lo hi its.toArray.size
  unfold slicePick
  rw [h1, h2, h3]
  simp only [sliceRange_one, pick_run, List.size_toArray] <;> rfl
noncomputable def rSlL (K : PySem.W.Frag) : V → Option Int → Option Int → Hp → VK → Prop := fun x lo hi H Q => ∃ a xs, x = .ref a ∧ SqL K H a xs ∧ ∀ p, H p = none → Q (.ref p) (upd H p (.lst (cutV xs lo hi)))
theorem sl_list : SlR X (rSlL X.K) := by
  intro pins s σ H x v vl vu lo hi sl Q I rx hs pl pu h
  obtain ⟨a, xs, rfl, hx, q⟩ := h
  cases rx
  obtain ⟨its, r, ht, hz⟩ := I.list hx
  have hlen := r.length
  refine ⟨"list", _, slot_list_getitem.lookup, ht.isList.typeIs, ?_⟩
  refine wpAny_getItem_list_slice ht.isList hs pl pu .none (by simp) ?_ (by rw [List.size_toArray] <;> (first | lia | omega))
  rw [slicePick_cut, ← hlen]
  refine ⟨.ref s.heap.objs.size, _, I.laid (t' := s.toks) (o := .lst (cutV xs lo hi)) (fun b ob q => Heap.get?_push_of_some _ q) (Nat.le_refl _) ?_, rfl, q _ (I.hok.fresh (Nat.le_refl _))⟩
  exact ⟨Nat.le_trans (cutV_length xs lo hi) hz, _, 0, (r.drop (HT.sIx xs.length 0 lo)).take (HT.sIx xs.length xs.length hi - HT.sIx xs.length 0 lo), Heap.get?_push_size _ rfl⟩
theorem call_len_seq : CallR X (.builtin "len") (fun xs H Q => ∃ p ys, xs = [.ref p] ∧ (SqL X.K H p ys ∨ SqT X.K H p ys) ∧ Q (.int ys.length) H) := by
  intro pins s σ H xs us Q I r h
  obtain ⟨p, ys, rfl, hq, q⟩ := h
  obtain ⟨u, rfl, rx⟩ := vals1 r
  cases rx
  have hn := line63
  rcases hq with hq | hq
  · obtain ⟨its, r', pl, hz⟩ := I.list hq
    have hlen := r'.length
    exact Calls.call_len_list pl.isList (by simp only [List.size_toArray] <;> (first | lia | omega)) ⟨.int ys.length, H, I.tok _, ⟨s.toks + 1, by rw [List.size_toArray, hlen]⟩, q⟩
  · obtain ⟨its, r', pl, hz⟩ := I.tuple hq
    have hlen := r'.length
    exact len_tuple pl (by simp only [List.size_toArray] <;> (first | lia | omega)) ⟨.int ys.length, H, I.tok _, ⟨s.toks + 1, by rw [List.size_toArray, hlen]⟩, q⟩
theorem call_tuple_of : CallR X (.type "tuple") (fun xs H Q => ∃ p ys, xs = [.ref p] ∧ ((SqL X.K H p ys ∧ ∀ l, H l = none → Q (.ref l) (upd H l (.tup ys))) ∨ (SqT X.K H p ys ∧ Q (.ref p) H))) := by
  intro pins s σ H xs us Q I r h
  obtain ⟨p, ys, rfl, h⟩ := h
  obtain ⟨u, rfl, rx⟩ := vals1 r
  cases rx
  rcases h with ⟨hq, q⟩ | ⟨hq, q⟩
  · obtain ⟨its, r', pl, hz⟩ := I.list hq
    have hlen := r'.length
    refine call_tuple_list pl.isList (fun h' kp => ?_) (by simp only [List.size_toArray] <;> (first | lia | omega))
    have I1 : Inv X pins σ H { s with heap := h' } := I.kept (t' := s.toks) kp
    have I2 : Inv X pins σ (upd H h'.objs.size (.tup ys)) { s with heap := h'.push { cls := .type "tuple", data := .seq its.toArray } } :=
      I1.laid (t' := s.toks) (fun b o e => Heap.get?_push_of_some _ e) (Nat.le_refl _) (show ObjOk X.prog X.w _ _ _ (.tup ys) from ⟨hz, its, r', IsTup.new _ _⟩)
    exact ⟨.ref h'.objs.size, _, I2, rfl, q _ (I1.hok.fresh (Nat.le_refl _))⟩
  · obtain ⟨its, r', pl, hz⟩ := I.tuple hq
    exact call_tuple_same pl ⟨.ref p, H, I, rfl, q⟩
variable {o e : Expr} {es : List Expr} {to : TE} {t : TA} {name : Str} {apos cpos : Pos} {T id : String} {r : V → List V → Hp → VK → Prop}
/- xs.append(e), list.index on a module's tuple .. are MtR facts of 06m -/
end
end L2
namespace L2
open PySem PySem.Spec PyProof.Rows
noncomputable def MtM (X : Cx) (id : String) (r : V → List V → Hp → VK → Prop) : Prop :=
  ∀ (pins : List (Addr × Obj)) (s : Shared) (σ : St) (H : Hp) (x : V) (xs : List V) (v : Value) (us : List Value) (Q : VK), Inv X pins σ H s → RelV x v → Vals xs us → r x xs H Q →
    wpAny (model X.prog X.w) X.A (call (.builtin id) (v :: us)) (EP X pins σ Q) X.xe s
theorem Vals.one : ∀ {x : V} {us : List Value}, Vals [x] us → ∃ u, us = [u] ∧ RelV x u
  | _, _, .cons r .nil => ⟨_, rfl, r⟩
section
variable {X : Cx} {pins : List (Addr × Obj)} {σ : St} {H : Hp} {s : Shared} {l b : Addr} {xs ys zs : List V}
theorem Inv.lset {its its' : List Value} {n : Nat} {f : Array Value → Array Value} {t' : Nat} (I : Inv X pins σ H s) (hH : H l = some (.lst xs))
    (e : s.heap.get? l = some { cls := .type "list", data := .seq its.toArray n }) (hf : f its.toArray = its'.toArray) (hv : Vals ys its') (hz : ys.length ≤ sizeLine) :
    Inv X pins σ (upd H l (.lst ys)) { s with heap := s.heap.update l (Obj.mapSeq f), toks := t' } := by
  have q := PySem.IsL.update e f
  rw [hf] at q
  refine I.write (x := l) (e := l) (by rw [hH]; exact trivial) (.inl rfl) (fun b' u hb hu => (Heap.get?_update_other s.heap (Obj.mapSeq f) (Ne.symm hb)).trans hu) ⟨_, q⟩ ?_
  exact ⟨hz, its', _, hv, q⟩
theorem Inv.lnew {its : List Value} {t' : Nat} (I : Inv X pins σ H s) (hv : Vals ys its) (hz : ys.length ≤ sizeLine) :
    Inv X pins σ (upd H s.heap.objs.size (.lst ys)) { s with heap := s.heap.push { cls := .type "list", data := .seq its.toArray }, toks := t' } :=
  I.laid (fun _ _ q => Heap.get?_push_of_some _ q) (Nat.le_refl _) ⟨hz, its, 0, hv, Heap.get?_push_size _ rfl⟩
theorem Inv.fresh (I : Inv X pins σ H s) : H s.heap.objs.size = none := I.hok.fresh (Nat.le_refl _)
theorem Inv.lstM (I : Inv X pins σ H s) (hH : H l = some (.lst xs)) : xs.length ≤ sizeLine ∧ ∃ (its : List Value) (n : Nat), Vals xs its ∧ xs.length = its.length ∧ s.heap.get? l = some { cls := .type "list", data := .seq its.toArray n } := by
  obtain ⟨z, its, n, r, e⟩ := I.hok l _ hH
  exact ⟨z, its, n, r, r.length, e⟩
end
section
variable {X : Cx}
noncomputable def rAppend : V → List V → Hp → VK → Prop := fun x vs H Q => ∃ l xs y, x = .ref l ∧ vs = [y] ∧ H l = some (.lst xs) ∧ xs.length < sizeLine ∧ Q .non (upd H l (.lst (xs ++ [y])))
theorem mt_append : MtM X "list.append" rAppend := by
  intro pins s σ H x vs v us Q I rx rv h
  obtain ⟨l, xs, y, rfl, rfl, hH, hz, q⟩ := h
  cases rx
  obtain ⟨u, rfl, ru⟩ := rv.one
  obtain ⟨z, its, n, r, hl, e⟩ := I.lstM hH
  refine call_meets F.slot_list_append ⟨_, e, rfl⟩ F.entry_list_append (F.args_list_append_2 _ _) (PySem.list_append l its.toArray n u (by rw [List.size_toArray]; (first | lia | omega))) ⟨e, ?_⟩
  refine ⟨.non, _, I.lset (its' := its ++ [u]) hH e (by simp) (r.append (.cons ru .nil)) ?_, rfl, q⟩
  rw [List.length_append, List.length_singleton]
  (first | lia | omega)
noncomputable def rCat : R2 := fun x y H Q => ∃ l b xs zs, x = .ref l ∧ y = .ref b ∧ H l = some (.lst xs) ∧ H b = some (.lst zs) ∧ xs.length + zs.length ≤ sizeLine ∧ ∀ p, H p = none → Q (.ref p) (upd H p (.lst (xs ++ zs)))
theorem op_cat : OpR X (binaryOp .Add) rCat := by
  intro pins s σ H x y v u Q I rx ry h
  obtain ⟨l, b, xs, zs, rfl, rfl, hH, hB, hz, q⟩ := h
  cases rx
  cases ry
  obtain ⟨z, its, n, r, hl, e⟩ := I.lstM hH
  obtain ⟨z2, its2, n2, r2, hl2, e2⟩ := I.lstM hB
  refine PySem.P.add_list e e2 ?_ (by rw [List.size_toArray, List.size_toArray]; (first | lia | omega))
  have ea : its.toArray ++ its2.toArray = (its ++ its2).toArray := by simp
  rw [ea]
  exact ⟨.ref _, _, I.lnew (t' := s.toks) (r.append r2) (by rw [List.length_append]; (first | lia | omega)), rfl, q _ I.fresh⟩
end
section
variable {prog : Program} {w : World} {A : Around} {E : Value → Shared → Prop} {s : Shared}
set_option maxRecDepth 100000 in
end
section
variable {X : Cx}
end
end L2
namespace Att
open PySem PySem.W PySem.Calls PyProof.Rows
theorem ints_of_wellAll {P : Params} {h : Heap} : ∀ (ns : List Int) (vs : List Value), WellAll P h vs (ns.map WData.int) → IntsAre vs ns := by
  intro ns
  induction ns with
  | nil =>
    intro vs w
    rw [List.map_nil] at w
    cases w
    exact .nil
  | cons n ns ih =>
    intro vs w
    rw [List.map_cons] at w
    cases w with
    | cons a b =>
      cases a
      exact .cons _ _ (ih _ b)
theorem script_of {l : OpenLaw} {n : Nat} (hn : l.most = some n) {P : Params} {h : Heap} {args : List WData} {vals : List Value}
    (hpre : l.row.toRowW.claim.pre args = true) (hwl : WellAll P h vals args) :
    ∃ a vs ns, vals = [Value.ref a] ∧ args = [WData.list (ns.map WData.int)] ∧ h.get? a = some { cls := .type "list", data := .seq vs.toArray } ∧ IntsAre vs ns ∧ ns.length ≤ n := by
  have hsh : WShape.hasAll [] args [.list .int] = true := (pre_splitW hpre).1
  have hc : l.pre.holds [] { args := args } = true := (pre_splitW hpre).2
  obtain ⟨d, r, rfl, h1, h2⟩ := hasAllW_cons hsh
  obtain rfl := hasAllW_nil h2
  obtain ⟨xs, rfl, h3⟩ := hasW_list h1
  obtain ⟨ns, rfl⟩ := items_int h3
  have hlen : ns.length ≤ n := by
    unfold OpenLaw.pre at hc
    have h4 : (WTm.not (.lt (.lit (.int (n : Int))) (.len (.arg 0)))).holds [] { args := [.list (ns.map .int)] } = true := by
      have h4 := (holds_andW hc).1
      rw [hn] at h4
      exact h4
    have h5 := condW_of h4 (w_not (w_lt w_lit (w_len_list (w_arg rfl))))
    rw [List.length_map] at h5
    refine Nat.le_of_not_lt fun q => ?_
    have q' : (n : Int) < ((ns.length : Nat) : Int) := by (first | lia | omega)
    first
      | (rw [decide_eq_true q'] at h5; exact absurd h5 (by decide))
      | (simp at h5; (first | lia | omega))
  cases hwl with
  | cons w1 w2 =>
    cases w2
    cases w1 with
    | list ho hall => exact ⟨_, _, ns, rfl, rfl, ho, ints_of_wellAll ns _ hall, hlen⟩
theorem post_true (l : OpenLaw) (args : List WData) : l.row.toRowW.claim.post args (.bool true) args = true :=
  postW_of (r := l.row.toRowW) (X := (true == true))
    (show WShape.has [] (.bool true) .bool = true by first | rfl | decide | simp [WShape.has, WShape.arms, WShape.armsAll])
    (show (WTm.eq .res (.lit (.bool true))).value [] { args := args, res := some (.bool true), after := args } = some (.bool (true == true)) from w_eq_bool (w_res rfl) w_lit) rfl
theorem attach_call {l : OpenLaw} {n : Nat} {q : Program} {loose : List Str} {XP : (Str → Option Value) → Heap → Prop} {YP : World → Heap → Prop} {d : DefRec}
    (hn : l.most = some n) (hdf : d.params.defaults = [])
    (call : ∀ (w : World) (s₀ s₁ : Shared) (mg mb : Str → Option Value) (fa : Addr) (o : Obj) (pm cd doc : Value) (a : Addr) (vs : List Value) (ns : List Int),
      Ground q loose [] XP w s₀ mg mb s₁.heap → YP w s₁.heap →
      s₁.heap.get? fa = some o → o.data = .func (docDef d.name d.params d.body d.scope pm cd doc) → s₁.heap.CodeRec cd d.name → mg d.name = some (.ref fa) →
      s₁.heap.get? a = some { cls := .type "list", data := .seq vs.toArray } → IntsAre vs ns → ns.length ≤ n → s₁.gens = #[] →
      codeAny (model l.prog w) callerA (.call (.ref fa) ⟨[.ref a], []⟩) (fun r s' => r = .ok (.ret (.bool true)) ∧ OldK s₁.heap s'.heap ∧ s'.os = s₁.os ∧ AllBare s'.gens) s₁) :
    WalkO q loose XP YP l.row.toRowW d [] (fun f vs => PySem.call f vs) := by
  intro w s₀ s₁ mg mb G Y fa o pm cd doc dV kV ho hd hcd hD hmg hg args vals as hpre hlay hrd hwl hlo
  obtain rfl : dV = .none := Dflts.none hD hdf
  obtain rfl : kV = .none := Dflts.noKw hD
  obtain ⟨a, vs, ns, rfl, rfl, hobj, hints, hlen⟩ := script_of hn hpre hwl
  refine enter_call (codeAny_mono (call w s₀ s₁ mg mb fa o pm cd doc a vs ns G Y ho (fd_plain hd) hcd hmg hobj hints hlen hg) fun r s' hq => ?_)
  obtain ⟨rfl, h2, h3, h4⟩ := hq
  exact ⟨.inl ⟨.bool true, .bool true, [], rfl, fun _ => rfl, .bool true, post_true l _, fun _ => ⟨List.Pairwise.nil, fun _ hm => (nomatch hm)⟩⟩, h2, h3, h4⟩
section
variable {prog : Program} {w : World} {A : Around} {E : Value → Shared → Prop} {s : Shared} {K : Frag}
noncomputable def ledger (h : Heap) (L d : Addr) : List (Addr × Obj) := (List.range h.objs.size).filterMap fun a => if a = L ∨ a = d then none else (h.get? a).map fun o => (a, o)
end
end Att
namespace L2
open PySem PySem.Spec PyProof.Rows
theorem vals_ints : ∀ {vs : List Value} {ns : List Int}, IntsAre vs ns → Vals (ns.map V.int) vs
  | _, _, .nil => .nil
  | _, _, .cons n t h => .cons ⟨t, rfl⟩ (vals_ints h)
noncomputable def Only (H : Hp) : Prop := ∀ b, H b = none ∨ ∃ o xs, H b = some (.frz o (.lst xs))
theorem law_call {P : Program} {w : World} {K : PySem.W.Frag} {mg mb : Str → Option Value} {CX : CXT} {k : Nat} {fa a : Addr} {fd : FuncData} {x : Str} {sp : Sp} {s₁ : Shared} {vs : List Value} {ns : List Int}
    (KX : K.In s₁.heap) (hns : s₁.heap.Ns mainGlobals mg) (hb : s₁.heap.Ns builtinsNs mb) (hbb : ∀ x : Str, x ≠ "__name__" → mb x = bootBuiltins x) (hlim : s₁.heap.NoLimit) (hg : s₁.gens = #[])
    (ha : s₁.heap.get? a = some { cls := .type "list", data := .seq vs.toArray }) (hi : IntsAre vs ns) (hl : ns.length ≤ sizeLine) (hr : Room k callerA)
    (F : ∀ base : Heap, K.In base → base.Ns mainGlobals mg → FnOk P w K mg base CX k fa fd [x] sp) (hbind : ∀ (s : Shared) (u : Value), BindsTo s fd ⟨[u], []⟩ [(x, u)])
    (hsp : ∀ H : Hp, Only H → SqL K H a (ns.map V.int) → sp [.ref a] H (fun v _ => v = .bl true) fun _ _ _ => False)
    (hCX : ∀ H e s', CX [] H s₁ (fun _ _ _ => False) e s' → False) :
    codeAny (model P w) callerA (.call (.ref fa) ⟨[.ref a], []⟩) (fun r s' => r = .ok (.ret (.bool true)) ∧ OldK s₁.heap s'.heap ∧ s'.os = s₁.os ∧ AllBare s'.gens) s₁ := by
  have rv := vals_ints hi
  have lenV := hi.length
  -- from an abstract heap in which nothing but the script may be tracked
  have core : ∀ H : Hp, Only H → SqL K H a (ns.map V.int) → HOk P w H s₁.heap → (∀ b, H b ≠ none → b = a) → (H a ≠ none → K.lookup a = none) →
      codeAny (model P w) callerA (.call (.ref fa) ⟨[.ref a], []⟩) (fun r s' => r = .ok (.ret (.bool true)) ∧ OldK s₁.heap s'.heap ∧ s'.os = s₁.os ∧ AllBare s'.gens) s₁ := by
    intro H hO hS hok hA hK
    have base_of : ∀ {b : Addr} {o : Obj}, s₁.heap.get? b = some o → H b = none → (hidT s₁.heap H).get? b = some o := fun e n => hidT_get e n
    have noA : ∀ {b : Addr} {o : Obj} {es : Array DictEntry} {ep : Nat}, s₁.heap.get? b = some o → o.data = .dict es ep → H b = none := fun {b o es ep} e d => by
      cases q : H b with
      | none => rfl
      | some u =>
        have e' : b = a := hA b (by rw [q]; simp)
        subst e'
        rw [ha] at e; cases e
        have d' : Data.seq vs.toArray _ = Data.dict es ep := d
        cases d'
    have nsK : ∀ {b : Addr} {m : Str → Option Value}, s₁.heap.Ns b m → (hidT s₁.heap H).Ns b m := fun {b m} ⟨o, es, ep, e, d, r⟩ => ⟨o, es, ep, base_of e (noA e d), d, r⟩
    have hKb : K.In (hidT s₁.heap H) := fun b o e => base_of (KX b o e) (by
      cases q : H b with
      | none => rfl
      | some u =>
        have e' : b = a := hA b (by rw [q]; simp)
        subst e'
        rw [hK (by rw [q]; simp)] at e; cases e)
    have hM : Mod K mg (hidT s₁.heap H) := ⟨hKb, nsK hns, ⟨mb, nsK hb, hbb⟩, let ⟨mc, h1, h2⟩ := hlim; ⟨mc, nsK h1, h2⟩⟩
    have e0 : Env0 P w K mg (hidT s₁.heap H) callerA [] s₁ H := ⟨rfl, hM, fun b o e => of_hidT e, Nat.le_of_eq (hidT_size _ _), trivial, fun b hb => absurd (show b ∈ ([] : List Addr) from hb) (by simp), hok, .of_eq hg⟩
    refine codeAny_mono ((F _ hKb (nsK hns)).run callerA [] s₁ H ⟨[.ref a], []⟩ [.ref a] [.ref a] _ _ hr e0 (hbind s₁ (.ref a)) (.cons rfl .nil) (hsp H hO hS)) fun r s' h => ?_
    cases r with
    | error e => exact (hCX H e s' h).elim
    | ok fl =>
      cases fl with
      | next => exact False.elim h
      | brk => exact False.elim h
      | cont => exact False.elim h
      | ret u =>
        obtain ⟨v, H', os, bare, un, hok', r', q⟩ := h
        have q' : v = .bl true := q
        subst q'
        obtain rfl : u = Value.bool true := r'
        refine ⟨rfl, OldK.of_keep fun b o e => ?_, os, bare⟩
        cases q : H b with
        | none => exact un.keep b o e q (by intro z; exact absurd (show b ∈ ([] : List Addr) from z) (by simp)) (by simp)
        | some u =>
          rcases hO b with z | ⟨ob, xs, z⟩
          · rw [q] at z; cases z
          · have z2 := un.frzs b ob _ z
            obtain ⟨e1, _⟩ := hok b _ z
            obtain ⟨e2, _⟩ := hok' b _ z2
            rw [e] at e1; cases e1
            exact e2
  cases hk : K.lookup a with
  | some o =>
    -- the script is one of the module's own objects
    have e := KX a o hk
    rw [ha] at e
    cases e
    refine core (fun _ => none) (fun _ => .inl rfl) (.inr ⟨_, vs.toArray, _, hk, rfl, rfl, rfl, by rw [List.size_toArray, lenV]; exact hl, by simpa using rv⟩) (fun b u z => by have z' : (none : Option HO) = some u := z; cases z') (fun b z => absurd rfl z) fun z => absurd rfl z
  | none =>
    refine core (fun b => if b = a then some (.frz { cls := .type "list", data := .seq vs.toArray } (.lst (ns.map V.int))) else none) (fun b => ?_) (.inl (.inr ⟨{ cls := .type "list", data := .seq vs.toArray }, if_pos rfl⟩)) (fun b u z => ?_) (fun b z => ?_) fun _ => hk
    · by_cases hb : b = a
      · exact .inr ⟨_, _, if_pos hb⟩
      · exact .inl (if_neg hb)
    · by_cases hb : b = a
      · have z' := (if_pos hb).symm.trans z
        cases z'
        subst hb
        exact ⟨ha, by rw [List.length_map]; exact hl, vs, _, rv, ha⟩
      · have z' := (if_neg hb).symm.trans z
        cases z'
    · by_cases hb : b = a
      · exact hb
      · exact absurd (if_neg hb) z
end L2
namespace L2
open PySem PySem.Spec PyProof.Rows
theorem walk_of {l : PySem.W.OpenLaw} {n k : Nat} {q : Program} {loose : List Str} {XP : (Str → Option Value) → Heap → Prop} {YP : World → Heap → Prop} {d : DefRec} {K : Params → PySem.W.Frag} {CX : World → CXT} {sp : World → Sp} {x : Str}
    (hn : l.most = some n) (hn2 : n ≤ sizeLine) (hdf : d.params.defaults = []) (hr : Room k callerA)
    (hY : ∀ (w : World) (h : Heap), YP w h → (K w.params).In h)
    (F : ∀ (w : World) (mg : Str → Option Value) (fa : Addr) (h : Heap), (K w.params).In h → h.Ns mainGlobals mg → mg d.name = some (.ref fa) →
      ∃ fd : FuncData, (∀ (s : Shared) (u : Value), BindsTo s fd ⟨[u], []⟩ [(x, u)]) ∧
        ∀ base : Heap, (K w.params).In base → base.Ns mainGlobals mg → FnOk l.prog w (K w.params) mg base (CX w) k fa fd [x] (sp w))
    (hsp : ∀ (w : World) (H : Hp) (a : Addr) (ns : List Int), ns.length ≤ n → Only H → SqL (K w.params) H a (ns.map V.int) → sp w [.ref a] H (fun v _ => v = .bl true) fun _ _ _ => False)
    (hCX : ∀ (w : World) (H : Hp) (s : Shared) (e : Value) (s' : Shared), CX w [] H s (fun _ _ _ => False) e s' → False) :
    PySem.W.WalkO q loose XP YP l.row.toRowW d [] (fun f vs => PySem.call f vs) := by
  refine Att.attach_call hn hdf fun w s₀ s₁ mg mb fa o pm cd doc a vs ns G Y ho hd hcd hmg hobj hints hlen hg => ?_
  have KX := hY w _ Y
  obtain ⟨fd, hb, hF⟩ := F w mg fa _ KX G.T.g hmg
  exact law_call KX G.T.g G.T.b G.T.builtins G.T.nolimit hg hobj hints (Nat.le_trans hlen hn2) hr hF hb (fun H hO hS => hsp w H a ns hlen hO hS) fun H e s' => hCX w H s₁ e s'
end L2
namespace L2
open PySem PySem.Spec PyProof.Rows
noncomputable def defArgs (s : Stmt) : Arguments := match s with
  | .FunctionDef _ a _ _ _ _ _ _ _ _ => a
  | _ => { posonlyargs := [], args := [], vararg := none, kwonlyargs := [], kw_defaults := [], kwarg := none, defaults := [] }
noncomputable def defBody (s : Stmt) : List Stmt := match s with
  | .FunctionDef _ _ b _ _ _ _ _ _ _ => b
  | _ => []
noncomputable def defScope (s : Stmt) : Scope := match s with
  | .FunctionDef _ _ _ _ _ _ sc _ _ _ => sc
  | _ => { kind := .function, names := [], isGenerator := false, isCoroutine := false }
noncomputable abbrev CX0 : CXT := fun _ _ _ _ _ _ => False
noncomputable abbrev E0 : XK := fun _ _ _ => False
theorem pass0 {X : Cx} : Passes CX0 X E0 := fun _ _ _ _ _ _ _ h => h.elim
structure Fun (K : PySem.W.Frag) (x qual : Str) (st : Stmt) (f : Addr) (fd : FuncData) : Prop where
  ex : ∃ (oc : Value) (od : Option Addr) (kV doc pm : Value) (an : Option Addr) (cdv ct : Value) (osl : Array (Option Value)),
    fd = PySem.W.fnOf x qual (defArgs st) (defBody st) (defScope st) .none kV doc pm an cdv ct ∧ K.lookup f = some ⟨oc, od, .func fd, osl⟩ ∧ PySem.W.codeIn K cdv qual = true
  kp : PySem.W.keepIn K (.ref f) = true
section
variable {P : Program} {w : World} {K : PySem.W.Frag} {mg : Str → Option Value} {base : Heap}
theorem Fun.ok {x qual : Str} {st : Stmt} {f : Addr} {fd : FuncData} {N ps : List Str} {k : Nat} {sp : Sp} (F : Fun K x qual st f fd) (S : FnScope N ps (defScope st)) (len : ∀ vs H Q E, sp vs H Q E → vs.length = ps.length)
    (hbody : ∀ (cdv : Value) (A : Around) (outer : List Env) (s : Shared) (H : Hp) (vs : List V) (Q : VK) (E : XK), Room k (A.deeper (envOfC qual (defScope st) s.heap.objs.size f cdv)) → sp vs H Q E →
      ∃ t, PSs (cxOf CX0 P w K mg base N qual (defScope st) f cdv A outer s H E).nox (defBody st) t ∧ t { nx := fun _ H' => Q .non H', rt := Q } (start N vs) H) : FnOk P w K mg base CX0 (k + 1) f fd ps sp := by
  obtain ⟨oc, od, kV, doc, pm, an, cdv, ct, osl, rfl, lk, hcd⟩ := F.ex
  refine fn_of lk hcd S len fun A outer s H vs Q E hr hsp => ?_
  obtain ⟨t, h, q⟩ := hbody cdv A outer s H vs Q E hr hsp
  exact ⟨t, h.nox, q⟩
theorem Fun.binds {x qual : Str} {st : Stmt} {f : Addr} {fd : FuncData} {ps : List Str} (F : Fun K x qual st f fd)
    (h : ∀ (kV doc pm : Value) (an : Option Addr) (cdv ct : Value) (us : List Value), us.length = ps.length → bindArgs (PySem.W.fnOf x qual (defArgs st) (defBody st) (defScope st) .none kV doc pm an cdv ct) ⟨us, []⟩ = pure (ps.zip us)) : Binds K fd ps [] := by
  obtain ⟨oc, od, kV, doc, pm, an, cdv, ct, osl, rfl, lk, hcd⟩ := F.ex
  exact .all (h kV doc pm an cdv ct)
theorem fun_mk {x qual : Str} {st : Stmt} {f : Addr} {oc : Value} {od an : Option Addr} {osl : Array (Option Value)} {kV doc pm cdv ct : Value} (l : K.lookup f = some ⟨oc, od, .func (PySem.W.fnOf x qual (defArgs st) (defBody st) (defScope st) .none kV doc pm an cdv ct), osl⟩)
    (c : PySem.W.codeIn K cdv qual = true) (k : PySem.W.keepIn K (.ref f) = true) : Fun K x qual st f (PySem.W.fnOf x qual (defArgs st) (defBody st) (defScope st) .none kV doc pm an cdv ct) := ⟨⟨oc, od, kV, doc, pm, an, cdv, ct, osl, rfl, l, c⟩, k⟩
end
theorem hu_of {A : Around} {k : Nat} (hr : Room k A) : A.units + 1 < cLine := Nat.lt_of_le_of_lt (Nat.add_le_add_left (by decide : 1 ≤ 64) _) hr.units
theorem small1000 {n : Nat} (h : n ≤ 1000) : n < sizeLine := Nat.lt_of_le_of_lt h (by decide)
section
variable {X : Cx}
theorem pv (i : Nat) {x : Str} {pos : Pos} (hN : X.N[i]? = some x := by rfl) (hv : Vis X.env.scope x := by first | exact Or.inl rfl | exact Or.inr (Or.inl rfl) | exact Or.inr (Or.inr rfl)) (hd : (x == ("__debug__" : Str)) = false := by decide)
    (hcd : (x == ("__classdict__" : Str)) = false := by decide) : PE X (.Name x pos) (tVar i) := pe_var hN hv hd hcd
end
theorem iteF {A B : Prop} (h : B) : if false = true then A else B := by
  rw [if_neg Bool.false_ne_true]
  exact h
theorem iteT {A B : Prop} (h : A) : if true = true then A else B := by
  rw [if_pos rfl]
  exact h
noncomputable def Same (H H' : Hp) : Prop := ∀ b o, H b = some o → H' b = some o
theorem Same.refl (H : Hp) : Same H H := fun _ _ h => h
theorem Same.trans {H H1 H2 : Hp} (a : Same H H1) (b : Same H1 H2) : Same H H2 := fun c o h => b c o (a c o h)
theorem Same.seq {K : PySem.W.Frag} {H H' : Hp} {a : Addr} {xs : List V} (e : Same H H') (h : SqL K H a xs) : SqL K H' a xs := by
  rcases h with (h | ⟨o, h⟩) | h
  · exact .inl (.inl (e _ _ h))
  · exact .inl (.inr ⟨o, e _ _ h⟩)
  · exact .inr h
end L2
namespace L2
open PySem PySem.Spec PyProof.Rows
section
variable {κ : Type} [DecidableEq κ]
noncomputable def valV (kvs : List (κ × V)) (k : κ) : Option V := (kvs.find? fun kv => decide (kv.1 = k)).map (·.2)
noncomputable def putK (kvs : List (κ × V)) (k : κ) (v : V) : List (κ × V) :=
  if (kvs.any fun kv => decide (kv.1 = k)) = true then kvs.map (fun kv => if kv.1 = k then (kv.1, v) else kv) else kvs ++ [(k, v)]
theorem valV_pos {p : κ × V} {r : List (κ × V)} {k : κ} (e : p.1 = k) : valV (p :: r) k = some p.2 := by simp [valV, List.find?_cons, e]
theorem valV_neg {p : κ × V} {r : List (κ × V)} {k : κ} (e : ¬ p.1 = k) : valV (p :: r) k = valV r k := by simp [valV, List.find?_cons, e]
theorem valV_any (k : κ) : ∀ kvs : List (κ × V), (kvs.any fun kv => decide (kv.1 = k)) = (valV kvs k).isSome
  | [] => rfl
  | p :: r => by
    rw [List.any_cons]
    by_cases e : p.1 = k
    · simp only [valV_pos e, decide_eq_true e, Bool.true_or, Option.isSome_some]
    · rw [valV_neg e, decide_eq_false e, Bool.false_or]; exact valV_any k r
theorem length_putK (kvs : List (κ × V)) (k : κ) (v : V) : (putK kvs k v).length ≤ kvs.length + 1 := by
  unfold putK
  split
  · rw [List.length_map]; (first | lia | omega)
  · rw [List.length_append, List.length_cons, List.length_nil]; (first | lia | omega)
theorem RelO.isSome_eq {o : Option V} {u : Option Value} (r : RelO o u) : o.isSome = u.isSome := by
  cases o with
  | none => cases u with
    | none => rfl
    | some _ => exact (show False from r).elim
  | some _ => cases u with
    | none => exact (show False from r).elim
    | some _ => rfl
theorem KV.any {kvs : List (κ × V)} {vs : List (κ × Value)} (r : KV kvs vs) (k : κ) : (kvs.any fun kv => decide (kv.1 = k)) = vs.any fun kv => decide (kv.1 = k) := by
  unfold KV at r
  induction r with
  | nil => rfl
  | cons h t ih => rw [List.any_cons, List.any_cons, ih, h.1]
theorem KV.repl {kvs : List (κ × V)} {vs : List (κ × Value)} (r : KV kvs vs) (k : κ) {y : V} {u : Value} (ry : RelV y u) :
    KV (kvs.map fun kv => if kv.1 = k then (kv.1, y) else kv) (vs.map fun kv => if kv.1 = k then (kv.1, u) else kv) := by
  unfold KV at r ⊢
  induction r with
  | nil => exact .nil
  | @cons p q ps qs h t ih =>
    rw [List.map_cons, List.map_cons]
    refine .cons ?_ ih
    obtain ⟨h1, h2⟩ := h
    by_cases e : p.1 = k
    · rw [if_pos e, if_pos (h1.symm.trans e)]; exact ⟨h1, ry⟩
    · rw [if_neg e, if_neg (fun z => e (h1.trans z))]; exact ⟨h1, h2⟩
theorem KV.put {kvs : List (κ × V)} {vs : List (κ × Value)} (r : KV kvs vs) (k : κ) {y : V} {u : Value} (ry : RelV y u) : KV (putK kvs k y) (stored vs k u) := by
  unfold putK stored
  rw [r.any k]
  by_cases e : (vs.any fun kv => decide (kv.1 = k)) = true
  · rw [if_pos e, if_pos e]; exact r.repl k ry
  · rw [if_neg e, if_neg e]; exact Paired.snoc r ⟨rfl, ry⟩
theorem KV.length {kvs : List (κ × V)} {vs : List (κ × Value)} (r : KV kvs vs) : kvs.length = vs.length := Paired.length r
end
theorem kV_is {P : Program} {w : World} {k : Key} {u : Value} (r : RelV (kV k) u) : (mixKind P w).is k u = true := by
  cases k with
  | inl i => obtain ⟨t, e⟩ := (show ∃ t, u = Value.int i t from r); subst e; exact mixKind_int P w i t
  | inr x => obtain ⟨t, e⟩ := (show ∃ t, u = Value.str x t from r); subst e; exact mixKind_str P w x t
theorem items_are {P : Program} {w : World} : ∀ {ks : List Key} {us : List Value}, Vals (ks.map kV) us → ItemsAre (mixKind P w) ks us
  | [], _, r => by rw [List.map_nil] at r; cases r; exact .nil
  | k :: ks, _, r => by
    rw [List.map_cons] at r
    cases r with
    | cons h t => exact .cons (kV_is h) (items_are t)
noncomputable abbrev KT (H : Hp) : List (List Key × V) → List (List Key × Addr × Value) → Prop := Paired fun p q => p.1 = q.1 ∧ H q.2.1 = some (.tup (p.1.map kV)) ∧ RelV p.2 q.2.2
theorem KT.val {H : Hp} {kvs : List (List Key × V)} {xs : List (List Key × Addr × Value)} (r : KT H kvs xs) (k : List Key) : RelO (valV kvs k) ((atKey xs k).map (·.2)) := by
  induction r with
  | nil => exact True.intro
  | @cons p q ps qs h t ih =>
    obtain ⟨h1, _, h2⟩ := h
    by_cases e : p.1 = k
    · have e' : q.1 = k := h1.symm.trans e
      have b : atKey (q :: qs) k = some q.2 := by simp [atKey, List.find?_cons, e']
      rw [valV_pos e, b]; exact h2
    · have e' : ¬ q.1 = k := fun z => e (h1.trans z)
      have b : atKey (q :: qs) k = atKey qs k := by simp [atKey, List.find?_cons, e']
      rw [valV_neg e, b]; exact ih
theorem KT.repl {H : Hp} {kvs : List (List Key × V)} {xs : List (List Key × Addr × Value)} (r : KT H kvs xs) (k : List Key) {y : V} {u : Value} (ry : RelV y u) :
    KT H (kvs.map fun kv => if kv.1 = k then (kv.1, y) else kv) (xs.map (putAt k u)) := by
  induction r with
  | nil => exact .nil
  | @cons p q ps qs h t ih =>
    rw [List.map_cons, List.map_cons]
    refine .cons ?_ ih
    obtain ⟨h1, h2, h3⟩ := h
    unfold putAt
    by_cases e : p.1 = k
    · rw [if_pos e, if_pos (h1.symm.trans e)]; exact ⟨h1, h2, ry⟩
    · rw [if_neg e, if_neg (fun z => e (h1.trans z))]; exact ⟨h1, h2, h3⟩
theorem KT.put {H : Hp} {kvs : List (List Key × V)} {xs : List (List Key × Addr × Value)} (r : KT H kvs xs) (k : List Key) {b : Addr} {y : V} {u : Value} (hb : H b = some (.tup (k.map kV))) (ry : RelV y u) :
    KT H (putK kvs k y) (storedH xs k b u) := by
  have e : (kvs.any fun kv => decide (kv.1 = k)) = (atKey xs k).isSome := by
    rw [valV_any, (r.val k).isSome_eq, Option.isSome_map]
  unfold putK storedH
  rw [e]
  by_cases q : (atKey xs k).isSome = true
  · rw [if_pos q, if_pos q]; exact r.repl k ry
  · rw [if_neg q, if_neg q]; exact Paired.snoc r ⟨rfl, hb, ry⟩
theorem KT.keeps {H H' : Hp} {kvs : List (List Key × V)} {xs : List (List Key × Addr × Value)} (r : KT H kvs xs) (ht : ∀ b ys, H b = some (.tup ys) → H' b = some (.tup ys)) : KT H' kvs xs :=
  Paired.mapP r fun _ _ z => ⟨z.1, ht _ _ z.2.1, z.2.2⟩
section
variable {P : Program} {w : World} {H : Hp} {h : Heap} {a : Addr}
theorem rd_of {u : HO} (ok : HOk P w H h) (e : Rd H a u) : ObjOk P w H h a u := e.ok ok
theorem dk_rd {kvs : List (Key × V)} (ok : HOk P w H h) (e : Rd H a (.dK kvs)) : kvs.length ≤ sizeLine ∧ (a == sysModules) = false ∧ ∃ vs, KV kvs vs ∧ h.DictOf (mixKind P w) a vs :=
  show ObjOk P w H h a (.dK kvs) from rd_of ok e
theorem dk_of {kvs : List (Key × V)} (ok : HOk P w H h) (e : H a = some (.dK kvs)) : kvs.length ≤ sizeLine ∧ (a == sysModules) = false ∧ ∃ vs, KV kvs vs ∧ h.DictOf (mixKind P w) a vs := dk_rd ok (.inl e)
theorem key_of {ks : List Key} (ok : HOk P w H h) (e : H a = some (.tup (ks.map kV))) : (tupleKind (mixKind P w)).is h ks a := by
  obtain ⟨_, its, r, o, h1, h2, n, h3⟩ := (show ObjOk P w H h a (.tup (ks.map kV)) from ok a _ e)
  exact ⟨o, its.toArray, n, h1, h2, h3, by simpa using items_are r⟩
theorem dt_rd {kvs : List (List Key × V)} (ok : HOk P w H h) (e : Rd H a (.dT kvs)) : kvs.length ≤ sizeLine ∧ (a == sysModules) = false ∧
    ∃ xs, KT H kvs xs ∧ h.DictOfH (tupleKind (mixKind P w)) a xs := by
  obtain ⟨z, y, xs, r, o, es, ep, h1, h2, h3, h4, h5⟩ := (show ObjOk P w H h a (.dT kvs) from rd_of ok e)
  refine ⟨z, y, xs, r, o, es, ep, h1, h2, h3, h4, fun x hx => ?_, h5⟩
  have all : ∀ {l : List (List Key × V)} {m : List (List Key × Addr × Value)}, KT H l m → ∀ x ∈ m, (tupleKind (mixKind P w)).is h x.1 x.2.1 := by
    intro l m q
    induction q with
    | nil => intro x hx; exact nomatch hx
    | @cons p q ps qs hq t ih =>
      intro x hx
      rcases List.mem_cons.mp hx with e | hx
      · subst e
        exact key_of ok (by rw [← hq.1]; exact hq.2.1)
      · exact ih x hx
  exact all r x hx
theorem dt_of {kvs : List (List Key × V)} (ok : HOk P w H h) (e : H a = some (.dT kvs)) : kvs.length ≤ sizeLine ∧ (a == sysModules) = false ∧
    ∃ xs, KT H kvs xs ∧ h.DictOfH (tupleKind (mixKind P w)) a xs := dt_rd ok (.inl e)
end
noncomputable def DPut (H : Hp) (a : Addr) (y v : V) (H' : Hp) : Prop :=
  (∃ kvs k, H a = some (.dK kvs) ∧ y = kV k ∧ kvs.length < sizeLine ∧ H' = upd H a (.dK (putK kvs k v))) ∨
  ∃ kvs k b, H a = some (.dT kvs) ∧ y = .ref b ∧ H b = some (.tup (k.map kV)) ∧ kvs.length < sizeLine ∧ H' = upd H a (.dT (putK kvs k v))
theorem DPut.t {H : Hp} {a b : Addr} {kvs : List (List Key × V)} {k : List Key} {v : V} (e : H a = some (.dT kvs)) (eb : H b = some (.tup (k.map kV))) (hl : kvs.length < sizeLine) :
    DPut H a (.ref b) v (upd H a (.dT (putK kvs k v))) := .inr ⟨kvs, k, b, e, rfl, eb, hl, rfl⟩
section
variable {X : Cx} {pins : List (Addr × Obj)} {σ : St} {H : Hp} {s : Shared} {a : Addr} {y v : V} {u r : Value} {o : Option V} {A : Around} {E : Value → Shared → Prop}
theorem Inv.big (I : Inv X pins σ H s) : sysModules < s.heap.objs.size := by
  have h : mainGlobals < s.heap.objs.size := (I.mod.glob.keeps I.bk).lt
  exact Nat.lt_trans (by decide) h
theorem d_write {h' : Heap} {t' : Nat} {ob : HO} (I : Inv X pins σ H s) (mu : Mut (H a)) (hs : Heap.SameBut a s.heap h') (he : ∃ q, h'.get? a = some q) (new : ObjOk X.prog X.w (upd H a ob) h' a ob) :
    Inv X pins σ (upd H a ob) { s with heap := h', toks := t' } :=
  I.write (x := a) (e := a) mu (.inl rfl) (fun b q hb z => (hs.2 b hb).trans z) he new
theorem dk_new {P : Program} {w : World} {H' : Hp} {h' : Heap} {kvs : List (Key × V)} {vs : List (Key × Value)} (z : kvs.length ≤ sizeLine) (hd : (a == sysModules) = false) (rel : KV kvs vs) (dd : h'.DictOf (mixKind P w) a vs) :
    ObjOk P w H' h' a (.dK kvs) := ⟨z, hd, vs, rel, dd⟩
theorem d_setItem {H' : Hp} {Q : Unit → Shared → Prop} (hu : A.units + 1 < cLine) (I : Inv X pins σ H s) (g : DPut H a y v H') (ry : RelV y u) (rv : RelV v r) (h : ∀ s', Inv X pins σ H' s' → Q () s') :
    wpAny (model X.prog X.w) A (setItem (.ref a) u r) Q E s := by
  rcases g with ⟨kvs, k, e, ey, l, eH⟩ | ⟨kvs, k, b, e, ey, eb, l, eH⟩
  · subst ey eH
    obtain ⟨z, hd, vs, rel, dd⟩ := dk_of I.hok e
    have hz : vs.length ≤ sizeLine := by rw [← rel.length]; exact z
    have hl : (putK kvs k v).length ≤ sizeLine := by have := length_putK kvs k v; (first | lia | omega)
    refine wpAny_setItem_pairs (hsz := hz) (kV_is ry) dd fun h' dd' hs => h _ ?_
    have he : ∃ q, h'.get? a = some q := let ⟨q, _, _, hq, _⟩ := dd'; ⟨q, hq⟩
    exact d_write I (by rw [e]; exact True.intro) hs he (dk_new hl hd (rel.put k rv) dd')
  · subst ey eH
    cases (show u = Value.ref b from ry)
    obtain ⟨z, hd, xs, rel, dd⟩ := dt_of I.hok e
    have hz : xs.length ≤ sizeLine := by rw [← Paired.length rel]; exact z
    have hl : (putK kvs k v).length ≤ sizeLine := by have := length_putK kvs k v; (first | lia | omega)
    refine wpAny_setItem_heap (hsz := hz) (tupleKind_room_in1 hu) (key_of I.hok eb) dd fun h' dd' hs => h _ ?_
    obtain ⟨q, es, ep, hq, h2, h3, h4, _, h5⟩ := dd'
    refine d_write I (by rw [e]; exact True.intro) hs ⟨q, hq⟩ ⟨hl, hd, _, (rel.put k eb rv).keeps fun c ys ec => ?_, q, es, ep, hq, h2, h3, h4, h5⟩
    rw [upd_ne (ne_of ec e (fun z => nomatch z))]
    exact ec
end
section
variable {X : Cx} {pins : List (Addr × Obj)} {σ : St} {H : Hp} {s : Shared} {a : Addr} {kvs : List (Key × V)} {k : Key} {u : Value} {A : Around} {E : Value → Shared → Prop}
end
noncomputable def sDPut (td ty tv : TE) : TS := fun D σ H => tv σ H fun v H1 => td σ H1 fun x H2 => ty σ H2 fun y H3 => ∃ a H4, x = .ref a ∧ DPut H3 a y v H4 ∧ D.nx σ H4
section
variable {X : Cx} {o i e value : Expr} {pos pos' tpos : Pos} {td ty tv : TE}
theorem ps_dput (hu : X.A.units + 1 < cLine) (ho : PE X o td) (hi : PE X i ty) (hv : PE X value tv) (hs : swapsWith value (some (.Subscript o i pos')) pos.line X.env = pure false) :
    PS X (.Assign [.Subscript o i pos'] value pos) (sDPut td ty tv) := by
  intro pins s σ H D I h
  refine wpAny_Assign_Subscript (thn (hv pins s σ H _ I h) fun r s1 ⟨v, H1, I1, rv, q1⟩ => thn (ho pins s1 σ H1 _ I1 q1) fun u s2 ⟨x, H2, I2, rx, q2⟩ => thn (hi pins s2 σ H2 _ I2 q2) fun iv s3 ⟨y, H3, I3, ry, a, H4, ex, g, q3⟩ => ?_) hs
  subst ex
  obtain rfl : u = Value.ref a := rx
  exact d_setItem hu I3 g ry rv fun s4 I4 => ⟨σ, H4, I4, q3⟩
end
theorem dt_empty {P : Program} {w : World} {H : Hp} (h : Heap) (hb : sysModules < h.objs.size) : ObjOk P w H (h.push { cls := .type "dict", data := .dict #[] }) h.objs.size (.dT []) :=
  ⟨Nat.zero_le _, beq_eq_false_iff_ne.mpr (Ne.symm (Nat.ne_of_lt hb)), [], .nil, _, #[], 0, Heap.get?_push_size _ rfl, ⟨rfl, rfl, rfl⟩, rfl, rfl, List.nodup_nil⟩
noncomputable def tDNewT : TE := fun _ H Q => ∀ p, H p = none → Q (.ref p) (upd H p (.dT []))
section
variable {X : Cx} {pos : Pos}
theorem pe_dnewT : PE X (.Dict [] [] pos) tDNewT := fun pins s σ H Q I h =>
  wpAny_Dict_empty ⟨.ref s.heap.objs.size, _, I.laid (a := s.heap.objs.size) (o := .dT []) (t' := s.toks) (fun _ _ q => Heap.get?_push_of_some _ q) (Nat.le_refl _) (dt_empty s.heap I.big), rfl, h _ (I.hok.fresh (Nat.le_refl _))⟩
end
end L2
set_option Elab.async false
set_option linter.all false
set_option maxRecDepth 100000
set_option maxHeartbeats 4000000
namespace L2
open PySem PySem.Spec PyProof.Rows
structure CompZ where
  cl : List (Str × Addr)
  C : Addr
  s : Shared
  H : Hp
  fp : List Addr
  pn : List (Addr × Obj)
noncomputable def compCx (X : Cx) (N : List Str) (scope : Scope) (Z : CompZ) : Cx where
  prog := X.prog
  w := X.w
  K := X.K
  mg := X.mg
  base := X.base
  A := X.A
  N := N
  s₀ := Z.s
  H₀ := Z.H
  env := compEnvC scope Z.cl Z.C X.env
  outer := X.stack
  stack := X.stack
  ex := Z.fp
  fn := fun _ => false
  calm := X.calm
  pn := Z.pn
  xe := fun _ _ => False
noncomputable def CompOk (ns : List (Str × NameKind)) (N : List Str) (scope : Scope) (frees : List (Str × Nat)) : Prop :=
  (∀ x ∈ scope.names, x.2 ≠ .cell ∧ (x.2 = .local → scope.names.lookup x.1 = some .local) ∧ (x.2 = .free → ns.lookup x.1 = some .cell ∨ ns.lookup x.1 = some .free)) ∧
  ∀ p ∈ frees, N[p.2]? = some p.1 ∧ scope.names.lookup p.1 = some .free ∧ (ns.lookup p.1 = some .cell ∨ ns.lookup p.1 = some .free)
instance (ns : List (Str × NameKind)) (N : List Str) (scope : Scope) (frees : List (Str × Nat)) : Decidable (CompOk ns N scope frees) := by unfold CompOk; infer_instance
noncomputable def σC (n : Nat) (frees : List (Str × Nat)) (σ : St) : St := List.replicate n none ++ frees.map fun p => (σ[p.2]?).join
theorem clos_ok {env : Env} {scope : Scope} (hf : ∀ x ∈ scope.names, x.2 = .free → ∃ c, env.cells.lookup x.1 = some c) :
    ∃ cl, closureFor scope env = pure cl ∧ (∀ x c, cl.lookup x = some c → env.cells.lookup x = some c) ∧ ∀ x, (x, NameKind.free) ∈ scope.names → ∃ c, cl.lookup x = some c := by
  have go : ∀ (names : List (Str × NameKind)) (cs : List (Str × Addr)), (∀ x ∈ names, x.2 = .free → ∃ c, env.cells.lookup x.1 = some c) → (∀ x c, cs.lookup x = some c → env.cells.lookup x = some c) →
      ∃ cl, (forIn names cs (fun (x : Str × NameKind) (r : List (Str × Addr)) => (if (x.2 == NameKind.free) = true then (do let a ← cellOf env x.1; pure (ForInStep.yield ((x.1, a) :: r))) else pure (ForInStep.yield r) : Sem (ForInStep (List (Str × Addr)))))) = pure cl ∧
        (∀ x c, cl.lookup x = some c → env.cells.lookup x = some c) ∧ (∀ x c, cs.lookup x = some c → ∃ c', cl.lookup x = some c') ∧ ∀ x, (x, NameKind.free) ∈ names → ∃ c, cl.lookup x = some c := by
    intro names
    induction names with
    | nil => intro cs _ h; exact ⟨cs, rfl, h, fun x c e => ⟨c, e⟩, fun x hx => nomatch hx⟩
    | cons y r ih =>
      intro cs hf h
      obtain ⟨n, k⟩ := y
      have hr : ∀ x ∈ r, x.2 = .free → ∃ c, env.cells.lookup x.1 = some c := fun x hx => hf x (List.mem_cons_of_mem _ hx)
      by_cases hk : k = .free
      · subst hk
        obtain ⟨c, hc⟩ := hf (n, .free) List.mem_cons_self rfl
        have h2 : ∀ x c', ((n, c) :: cs).lookup x = some c' → env.cells.lookup x = some c' := fun x c' e => by
          rw [List.lookup_cons] at e
          cases hx : x == n with
          | true =>
            rw [hx] at e
            have : x = n := eq_of_beq hx
            cases e
            rw [this]; exact hc
          | false => rw [hx] at e; exact h x c' e
        obtain ⟨cl, e1, e2, e3, e4⟩ := ih ((n, c) :: cs) hr h2
        refine ⟨cl, ?_, e2, fun x c' e => ?_, fun x hx => ?_⟩
        · rw [List.forIn_cons]
          have : cellOf env n = pure c := by unfold cellOf; rw [hc]
          simp only [beq_self_eq_true, if_true, this, pure_bind]
          exact e1
        · cases hx : x == n with
          | true => exact e3 x c (by rw [List.lookup_cons, hx])
          | false => exact e3 x c' (by rw [List.lookup_cons, hx]; exact e)
        · rcases List.mem_cons.mp hx with z | z
          · cases z
            exact e3 n c (by rw [List.lookup_cons, beq_self_eq_true])
          · exact e4 x z
      · obtain ⟨cl, e1, e2, e3, e4⟩ := ih cs hr h
        refine ⟨cl, ?_, e2, e3, fun x hx => ?_⟩
        · rw [List.forIn_cons]
          have hb : (k == NameKind.free) = false := by simpa using hk
          simp only [hb, Bool.false_eq_true, if_false, pure_bind]
          exact e1
        · rcases List.mem_cons.mp hx with z | z
          · cases z; exact absurd rfl hk
          · exact e4 x z
  obtain ⟨cl, e1, e2, _, e4⟩ := go scope.names [] hf (fun x c e => by simp at e)
  refine ⟨cl, ?_, e2, e4⟩
  unfold closureFor
  first
    | (rw [e1]; rfl)
    | (simp only [e1]; rfl)
    | simp [e1]
theorem relabel_free {env : Env} : ∀ {names : List (Str × NameKind)} {x : Str}, names.lookup x = some .free →
    (names.map fun (n, k) => if (k == NameKind.free && env.scope.kind == .function && env.kindOf n == some .cell) then (n, NameKind.cell) else (n, k)).lookup x = some .cell ∨
    (names.map fun (n, k) => if (k == NameKind.free && env.scope.kind == .function && env.kindOf n == some .cell) then (n, NameKind.cell) else (n, k)).lookup x = some .free
  | [], _, h => by simp at h
  | (n, k) :: r, x, h => by
    have ih := @relabel_free env r x
    show List.lookup x ((if (k == NameKind.free && env.scope.kind == .function && env.kindOf n == some .cell) = true then (n, NameKind.cell) else (n, k)) :: _) = _ ∨ List.lookup x ((if (k == NameKind.free && env.scope.kind == .function && env.kindOf n == some .cell) = true then (n, NameKind.cell) else (n, k)) :: _) = _
    cases hx : x == n with
    | true =>
      simp only [List.lookup_cons, hx] at h
      cases h
      by_cases hc : (NameKind.free == NameKind.free && env.scope.kind == .function && env.kindOf n == some .cell) = true
      · rw [if_pos hc]; left; rw [List.lookup_cons, hx]
      · rw [if_neg hc]; right; rw [List.lookup_cons, hx]
    | false =>
      simp only [List.lookup_cons, hx] at h
      by_cases hc : (k == NameKind.free && env.scope.kind == .function && env.kindOf n == some .cell) = true
      · rw [if_pos hc]; simp only [List.lookup_cons, hx]; exact ih h
      · rw [if_neg hc]; simp only [List.lookup_cons, hx]; exact ih h
theorem relabel_back {env : Env} : ∀ {names : List (Str × NameKind)} {x : Str}, 
    ((names.map fun (n, k) => if (k == NameKind.free && env.scope.kind == .function && env.kindOf n == some .cell) then (n, NameKind.cell) else (n, k)).lookup x = some .cell ∨
     (names.map fun (n, k) => if (k == NameKind.free && env.scope.kind == .function && env.kindOf n == some .cell) then (n, NameKind.cell) else (n, k)).lookup x = some .free) →
    (x, NameKind.free) ∈ names ∨ (x, NameKind.cell) ∈ names
  | [], _, h => by simp at h
  | (n, k) :: r, x, h => by
    have ih := @relabel_back env r x
    replace h : List.lookup x ((if (k == NameKind.free && env.scope.kind == .function && env.kindOf n == some .cell) = true then (n, NameKind.cell) else (n, k)) :: _) = _ ∨ List.lookup x ((if (k == NameKind.free && env.scope.kind == .function && env.kindOf n == some .cell) = true then (n, NameKind.cell) else (n, k)) :: _) = _ := h
    cases hx : x == n with
    | true =>
      have e : x = n := eq_of_beq hx
      subst e
      by_cases hc : (k == NameKind.free && env.scope.kind == .function && env.kindOf x == some .cell) = true
      · have : k = .free := by
          simp only [Bool.and_eq_true] at hc
          exact eq_of_beq hc.1.1
        subst this
        exact .inl List.mem_cons_self
      · rw [if_neg hc] at h
        simp only [List.lookup_cons, hx, Option.some.injEq] at h
        rcases h with h | h
        · subst h; exact .inr List.mem_cons_self
        · subst h; exact .inl List.mem_cons_self
    | false =>
      have h' : _ := h
      by_cases hc : (k == NameKind.free && env.scope.kind == .function && env.kindOf n == some .cell) = true
      · rw [if_pos hc] at h; simp only [List.lookup_cons, hx] at h
        rcases ih h with z | z
        · exact .inl (List.mem_cons_of_mem _ z)
        · exact .inr (List.mem_cons_of_mem _ z)
      · rw [if_neg hc] at h; simp only [List.lookup_cons, hx] at h
        rcases ih h with z | z
        · exact .inl (List.mem_cons_of_mem _ z)
        · exact .inr (List.mem_cons_of_mem _ z)
section
variable {X : Cx} {pins : List (Addr × Obj)} {σ : St} {H2 : Hp} {s2 : Shared} {scope : Scope} {loc : List Str} {frees : List (Str × Nat)} {ns : List (Str × NameKind)} {N : List Str} {fp : List Addr} {cl : List (Str × Addr)}
theorem comp_start (I2 : Inv X pins σ H2 s2) (hns : X.env.scope.names = ns) (hN : X.N = N) (hk : scope.kind = .function) (ok : CompOk ns N scope frees) (f2 : ∀ b ∈ fp, FpOk X pins H2 b) (hlive : ∀ b ∈ fp, ∃ o, s2.heap.get? b = some o)
    (hc1 : ∀ x c, cl.lookup x = some c → X.env.cells.lookup x = some c) (hc2 : ∀ x, (x, NameKind.free) ∈ scope.names → ∃ c, cl.lookup x = some c)
    {C : Addr} {h4 : Heap} {tk : Nat} (hC : C = s2.heap.objs.size + 1) (hnsC : ∃ m, h4.Ns C m) (hacc : h4.get? s2.heap.objs.size = some { cls := .type "list", dict := none, data := .seq ([] : List Value).toArray })
    (hkeep : ∀ b o, s2.heap.get? b = some o → h4.get? b = some o) :
    Inv (compCx X (loc ++ frees.map (·.1)) scope ⟨cl, C, s2, H2, fp, X.pn ++ pins⟩) [] (σC loc.length frees σ) (upd H2 s2.heap.objs.size (.lst [])) { s2 with heap := h4, toks := tk } := by
  have below : ∀ {b : Addr} {o : Obj}, s2.heap.get? b = some o → b ≠ C := fun {b o} e z => by
    have := Heap.lt_size e
    rw [z, hC] at this
    exact Nat.lt_irrefl _ (Nat.lt_of_succ_lt this)
  have hl : H2 s2.heap.objs.size = none := I2.hok.fresh (Nat.le_refl _)
  have hCn : H2 C = none := I2.hok.fresh (by rw [hC]; exact Nat.le_succ _)
  have cne : ∀ x c, X.env.cells.lookup x = some c → ∃ o v, s2.heap.get? c = some o ∧ o.data = .cell v := fun x c e => by
    obtain ⟨v, o, ho, hd⟩ := I2.cell x c e
    exact ⟨o, v, ho, hd⟩
  obtain ⟨mC, hmC⟩ := hnsC
  have hCl : C ≠ s2.heap.objs.size := by rw [hC]; exact Nat.succ_ne_self _
  refine ⟨⟨I2.ok.mod, hk, I2.ok.glob, I2.ok.blt, ?_, fun x y c h1 h2 => I2.ok.inj x y c (hc1 x c h1) (hc1 y c h2), fun x hx => ?_, fun x c h => (Bool.false_ne_true h).elim, I2.ok.hd, I2.ok.frames, .inl rfl, fun b hb => ⟨?_, fun x c e z => ?_⟩, I2.bs, Nat.le_trans I2.ok.bsz I2.sz, fun b o e hb => ?_, fun b hb hfs => ?_, I2.stack, I2.stkFree⟩,
    rfl, I2.bare, ?_, ⟨mC, hmC, fun i x v h1 h2 h3 => ?_⟩, fun x c e => ?_, ?_, fun x c e => ?_, fun p hp => ?_, ?_, ?_⟩
  · show s2.heap.objs.size ≤ C
    rw [hC]; exact Nat.le_succ _
  · -- has
    have hx' : (relabel scope X.env).names.lookup x = some .cell ∨ (relabel scope X.env).names.lookup x = some .free := hx
    rcases relabel_back hx' with z | z
    · exact hc2 x z
    · exact absurd rfl (ok.1 _ z).1
  · obtain ⟨o, ho⟩ := hlive b hb
    exact below ho
  · exact (f2 b hb).2.2.2.2.1 x c (hc1 x c e) z
  · rcases (f2 b hb).2.2.2.1 with z | z
    · exact I2.ok.noex b o e z
    · exact absurd (Nat.lt_of_lt_of_le (Heap.lt_size (I2.ok.bs b o e).1) z) (Nat.lt_irrefl _)
  · rcases List.mem_cons.mp (I2.stkSub b hfs) with z | z
    · exact (f2 b hb).2.1 z
    · exact (f2 b hb).2.2.1 z
  · exact Un.laid hkeep (Nat.le_refl _) hl
  · -- loc
    have hi : ¬ i < loc.length := fun hlt => by
      unfold σC at h2
      rw [List.getElem?_append_left (by simpa using hlt), List.getElem?_replicate] at h2
      simp [hlt] at h2
    have h2' : (frees[i - loc.length]?).map (fun p => (σ[p.2]?).join) = some (some v) := by
      unfold σC at h2
      rw [List.getElem?_append_right (by simpa using hi), List.length_replicate, List.getElem?_map] at h2
      exact h2
    have h1' : (frees[i - loc.length]?).map (·.1) = some x := by
      have h1 : (loc ++ frees.map (·.1))[i]? = some x := h1
      rw [List.getElem?_append_right (by (first | lia | omega)), List.getElem?_map] at h1
      exact h1
    cases ep : frees[i - loc.length]? with
    | none => rw [ep] at h1'; simp at h1'
    | some p =>
      rw [ep] at h1' h2'
      simp only [Option.map_some, Option.some.injEq] at h1' h2'
      obtain ⟨q1, q2, q3⟩ := ok.2 p (List.mem_of_getElem? ep)
      have hσ : σ[p.2]? = some (some v) := by
        cases e : σ[p.2]? with
        | none => rw [e] at h2'; simp at h2'
        | some o => rw [e] at h2'; simp at h2'; rw [h2']
      have vis : Vis X.env.scope p.1 := by
        show _ ∨ _
        rw [hns]; rcases q3 with z | z
        · exact .inr (.inl z)
        · exact .inr (.inr z)
      obtain ⟨m, hn, hlk⟩ := I2.loc
      obtain ⟨u, ru, lk⟩ := hlk p.2 p.1 v (by rw [hN]; exact q1) hσ vis
      refine ⟨u, ru, .inr ?_⟩
      rw [← h1']
      rcases lk with ⟨z, _⟩ | ⟨_, c, ec, hcell⟩
      · have z' : X.env.scope.names.lookup p.1 = some .local := z
        rw [hns] at z'
        rcases q3 with y | y <;> rw [z'] at y <;> cases y
      · obtain ⟨c', hc'⟩ := hc2 p.1 (PySem.mem_of_lookup q2)
        have : c' = c := by have := hc1 _ _ hc'; rw [ec] at this; exact (Option.some.inj this).symm
        subst this
        refine ⟨relabel_free q2, c', hc', ?_⟩
        obtain ⟨o, ho, hd⟩ := hcell
        exact ⟨o, hkeep _ _ ho, hd⟩
  · obtain ⟨o, v, ho, hd⟩ := cne x c (hc1 x c e)
    exact ⟨v, o, hkeep _ _ ho, hd⟩
  · show upd H2 _ _ C = none
    rw [upd_ne hCl]; exact hCn
  · obtain ⟨o, v, ho, hd⟩ := cne x c (hc1 x c e)
    have : c ≠ s2.heap.objs.size := Nat.ne_of_lt (Heap.lt_size ho)
    rw [upd_ne this]
    exact I2.freeC x c (hc1 x c e)
  · have hp' : p ∈ X.pn ++ pins := by
      rcases List.mem_append.mp hp with z | z
      · exact z
      · exact absurd z (by simp)
    obtain ⟨e, n, ne, nf, d⟩ := I2.pin p hp'
    refine ⟨hkeep _ _ e, ?_, below e, fun z => ?_, d⟩
    · rw [upd_ne (Nat.ne_of_lt (Heap.lt_size e))]; exact n
    · rcases List.mem_cons.mp (I2.stkSub p.1 z) with y | y
      · exact ne y
      · exact nf y
  · exact I2.hok.laid hkeep (Nat.le_refl _) ⟨by simp, [], _, .nil, hacc⟩
  · show (σC loc.length frees σ).length = (loc ++ frees.map (·.1)).length
    unfold σC
    simp
theorem comp_back {C : Addr} {H' : Hp} {s' : Shared} {σ' : St} {h' : Heap} {pl : List (Addr × Obj)} (I2 : Inv X pins σ H2 s2) (f2 : ∀ b ∈ fp, FpOk X pins H2 b) (hC : C = s2.heap.objs.size + 1)
    (J : Inv (compCx X N scope ⟨cl, C, s2, H2, fp, pl⟩) [] σ' H' s') (hs : Heap.SameBut C s'.heap h') : Inv X pins σ H' { s' with heap := h' } := by
  have I3 : Inv X pins σ H' s' := I2.call' (ch := fp) J.os J.base J.hok J.bare fun b hb => ⟨(f2 b hb).2.2.2.1, (f2 b hb).2.1, (f2 b hb).2.2.2.2.1, (f2 b hb).2.2.2.2.2⟩
  refine I3.turned (it := C) (t' := s'.toks) (fun b o hb e => (hs.2 b hb).trans e) J.free ?_ (.inr ?_) (fun x c e z => ?_) fun p hp z => ?_
  · intro z
    have := I2.lt
    rw [← z, hC] at this; exact Nat.lt_irrefl _ (Nat.lt_of_succ_lt this)
  · rw [hC]; exact Nat.le_trans I2.sz (Nat.le_succ _)
  · obtain ⟨v, q⟩ := I2.cell x c e
    have := q.lt
    rw [z, hC] at this; exact Nat.lt_irrefl _ (Nat.lt_of_succ_lt this)
  · have := Heap.lt_size (I2.pin p hp).1
    rw [z, hC] at this; exact Nat.lt_irrefl _ (Nat.lt_of_succ_lt this)
end
end L2
set_option Elab.async false
set_option linter.all false
set_option maxRecDepth 100000
set_option maxHeartbeats 4000000
namespace L2
open PySem PySem.Spec PyProof.Rows
noncomputable abbrev TC := St → Hp → (St → Hp → Prop) → Prop
noncomputable def tForJ (J : It) (g : TG) (tb : TS) (D : Ends) (σ : St) (H : Hp) : Prop := ∃ W : Nat → Nat → St → Hp → Prop, (∃ m, W 0 m σ H) ∧ ∀ i m σ H, W i m σ H →
  (J.stop i H ∧ D.nx σ H) ∨ (J.go i H ∧ ∃ N : St → Hp → Prop, (∀ σ' H', N σ' H' → ∃ m', m' < m ∧ W (i + 1) m' σ' H') ∧ ∀ x H', J.yld i H x H' → g x σ H' fun σ2 H2 => tb { D with nx := N, ct := N, bk := D.nx } σ2 H2)
noncomputable def eC (Q : St → Hp → Prop) : Ends := { nx := Q, rt := fun _ _ => False }
noncomputable def tBodyC (tt : TT) (tb : TC) : TS := fun D σ H => tt σ H fun b H1 => if b = true then tb σ H1 D.nx else D.nx σ H1
noncomputable def tEmit (l : Addr) (te : TE) : TC := fun σ H Q => te σ H fun v H1 => ∃ xs, H1 l = some (.lst xs) ∧ xs.length < sizeLine ∧ Q σ (upd H1 l (.lst (xs ++ [v])))
noncomputable def tComp1 (wi : TI) (g : CompZ → TG) (tt : CompZ → TT) (te : CompZ → TE) (n : Nat) (frees : List (Str × Nat)) : TE := fun σ H Q => wi σ H fun J H1 => ∀ (Z : CompZ) (l : Addr), H1 l = none →
  tForJ J (g Z) (tBodyC (tt Z) (tEmit l (te Z))) (eC fun _ H' => Q (.ref l) H') (σC n frees σ) (upd H1 l (.lst []))
noncomputable def testsOf (ifs : List Expr) (env : Env) : Sem Bool := forIn ifs true fun c r => if r = true then do let ok ← isTrue c env (eval c env); pure (ForInStep.yield ok) else pure (ForInStep.yield r)
noncomputable def PTs (Y : Cx) (ifs : List Expr) (t : TT) : Prop := ∀ (pins : List (Addr × Obj)) (s : Shared) (σ : St) (H : Hp) (Q : Bool → Hp → Prop), Inv Y pins σ H s → t σ H Q →
  wpAny (model Y.prog Y.w) Y.A (testsOf ifs Y.env) (TP Y pins σ Q) Y.xe s
noncomputable def tAll : TT := fun _ H Q => Q true H
theorem pts_nil {Y : Cx} : PTs Y [] tAll := fun pins s σ H Q I h => wpAny_tests_nil ⟨H, I, h⟩
theorem pts_one {Y : Cx} {c : Expr} {t : TT} (hc : PT Y c t) : PTs Y [c] t := fun pins s σ H Q I h => wpAny_tests_one (hc pins s σ H Q I h)
noncomputable def PB (Y : Cx) (tail : (Unit → Sem Fin) → Sem Fin) (r : TC) : Prop := ∀ (pins : List (Addr × Obj)) (s : Shared) (σ : St) (H : Hp) (Q : St → Hp → Prop) (Q' : Fin → Shared → Prop) (k : Unit → Sem Fin), Inv Y pins σ H s → r σ H Q →
  (∀ σ' H' s', Inv Y pins σ' H' s' → Q σ' H' → wpAny (model Y.prog Y.w) Y.A (k ()) Q' (fun _ _ => False) s') → wpAny (model Y.prog Y.w) Y.A (tail k) Q' (fun _ _ => False) s
theorem nox_of {α : Type} {M : Model} {A : Around} {t : Sem α} {Q : α → Shared → Prop} {E E' : Value → Shared → Prop} {s : Shared} (h : wpAny M A t Q E s) (hx : E = fun _ _ => False) : wpAny M A t Q E' s := by
  subst hx
  exact wpAny_mono h (fun _ _ q => q) fun _ _ z => z.elim
noncomputable def tailEmit (elt : Expr) (acc : Value) (env : Env) (k : Unit → Sem Fin) : Sem Fin := (eval elt env >>= fun x => call (.builtin "list.append") [acc, x] >>= fun _ => pure ()) >>= k
theorem pb_emit {Y : Cx} {elt : Expr} {te : TE} {l : Addr} (hx : Y.xe = fun _ _ => False) (he : PE Y elt te) : PB Y (tailEmit elt (.ref l) Y.env) (tEmit l te) := by
  intro pins s σ H Q Q' k I h hk
  refine wpAny_bind (wpAny_bind (thn (nox_of (he pins s σ H _ I h) hx) fun v s1 ⟨x, H1, I1, r1, q1⟩ => ?_))
  obtain ⟨xs, e, hz, q⟩ := q1
  refine wpAny_bind (thn (nox_of (mt_append pins s1 σ H1 (.ref l) [x] (.ref l) [v] (fun _ H2 => Q σ H2) I1 rfl (.cons r1 .nil) ⟨l, xs, x, rfl, rfl, e, hz, q⟩) hx) fun u s2 ⟨y, H2, I2, r2, q2⟩ => ?_)
  exact wpAny_pure (hk σ H2 s2 I2 q2)
noncomputable def turnOf (e : Expr) (d : Nat) (it acc : Value) (env : Env) (tg iter : Expr) (ifs : List Expr) (tail : (Unit → Sem Fin) → Sem Fin) : Sem Fin :=
  standAt iter.pos >>= fun _ => pyNext it >>= fun r => match r with
    | none => pure (.done .next)
    | some v => letOwnedTupleGo tg it v >>= fun _ => assign tg env v >>= fun _ => testsOf ifs env >>= fun ok =>
      if ok = true then tail (fun _ => again (.compLoop e d it acc env)) else again (.compLoop e d it acc env)
theorem turn_1 (elt tg iter : Expr) (ifs : List Expr) (scope : Scope) (pos : Pos) (it acc : Value) (env : Env) :
    compTurn (.ListComp elt [⟨tg, iter, ifs, 0⟩] scope pos) 0 it acc env = turnOf (.ListComp elt [⟨tg, iter, ifs, 0⟩] scope pos) 0 it acc env tg iter ifs (tailEmit elt acc env) := by rfl
section
variable {Y : Cx}
theorem comp_loop {elt tg iter : Expr} {gens : List Comprehension} {scope : Scope} {pos : Pos} {d : Nat} {ifs : List Expr} {it l : Addr} {tail : (Unit → Sem Fin) → Sem Fin} {fp : List Addr} {tn : Nat → Heap → Prop} {J : It} {g : TG} {tt : TT} {tb : TC} {pins : List (Addr × Obj)} {σ : St} {H : Hp} {s : Shared} {Q : St → Hp → Prop}
    (hx : Y.xe = fun _ _ => False) (hc : Y.calm = true) (heq : compTurn (.ListComp elt gens scope pos) d (.ref it) (.ref l) Y.env = turnOf (.ListComp elt gens scope pos) d (.ref it) (.ref l) Y.env tg iter ifs tail) (hg : PG Y tg g) (ht : PTs Y ifs tt) (hb : PB Y tail tb)
    (I : Inv Y pins σ H s) (T : Turn Y.prog Y.w Y.K tg J fp it tn) (st : tn 0 s.heap) (f2 : ∀ b ∈ fp, FpOk Y pins H b) (h : tForJ J g (tBodyC tt tb) (eC Q) σ H) :
    codeAny (model Y.prog Y.w) Y.A (.compLoop (.ListComp elt gens scope pos) d (.ref it) (.ref l) Y.env) (fun r s' => r = .ok .next ∧ ∃ σ' H', Inv Y pins σ' H' s' ∧ Q σ' H') s := by
  obtain ⟨W, ⟨m0, w0⟩, turn⟩ := h
  have stat : ∀ {H' : Hp}, (∀ b ∈ fp, H' b = none) → ∀ b ∈ fp, FpOk Y pins H' b := fun hn b hb => ⟨hn b hb, (f2 b hb).2⟩
  refine codeAny_loop rfl (fun n s' => ∃ i σ' H', Inv Y pins σ' H' s' ∧ tn i s'.heap ∧ (∀ b ∈ fp, H' b = none) ∧ W i n σ' H') (fun n s3 hI => ?_) m0 ⟨0, σ, H, I, st, fun b hb => (f2 b hb).1, w0⟩
  obtain ⟨i, σ3, H3, I3, st3, fr3, w3⟩ := hI
  show wpAny _ Y.A ((compTurn (.ListComp elt gens scope pos) d (.ref it) (.ref l) Y.env).onRaise (fun x => do noteFrame x Y.env; theTreesLotGoes x)) _ _ s3
  refine wpAny_noted ?_
  rw [heq]
  unfold turnOf
  refine wpAny_bind (wpAny_standAt (wpAny_bind ?_))
  rcases turn i n σ3 H3 w3 with ⟨stop, qn⟩ | ⟨go, N, hN, step⟩
  · refine thn (T.done Y rfl rfl rfl hc i pins s3 σ3 H3 _ I3 (stat fr3) st3 stop) fun r s4 ⟨hr, I4⟩ => ?_
    subst hr
    exact wpAny_pure ⟨rfl, σ3, H3, I4, qn⟩
  · refine thn (T.item Y rfl rfl rfl hc i pins s3 σ3 H3 _ I3 (stat fr3) st3 go) fun r s4 ⟨u, hr, h4⟩ => ?_
    subst hr
    refine wpAny_bind (thn h4 fun _ s5 ⟨x, H5, I5, r5, y5, st5, fr5⟩ => ?_)
    have I5' := I5.pinned (stat fr5) (T.obj _ _ st5)
    refine wpAny_bind (thn (nox_of (hg _ s5 σ3 H5 x u _ I5' r5 (step x H5 y5)) hx) fun _ s6 ⟨σ6, H6, I6, q6⟩ => ?_)
    refine wpAny_bind (thn (nox_of (ht _ s6 σ6 H6 _ I6 q6) hx) fun ok s7 ⟨H7, I7, q7⟩ => ?_)
    have again : ∀ {σ7 : St} {H7 : Hp} {s7 : Shared}, Inv Y (pins ++ pinsAt fp s5.heap) σ7 H7 s7 → N σ7 H7 → ∃ m, m < n ∧ ∃ i σ' H', Inv Y pins σ' H' s7 ∧ tn i s7.heap ∧ (∀ b ∈ fp, H' b = none) ∧ W i m σ' H' := fun {σ7 H7 s7} I7 n7 => by
      obtain ⟨m', hm, w7⟩ := hN σ7 H7 n7
      refine ⟨m', hm, i + 1, σ7, H7, I7.unpinned, T.keep _ _ _ st5 fun b hb o e => (I7.pin (b, o) (List.mem_append_right _ (List.mem_append_right _ (mem_pinsAt hb e)))).1, fun b hb => ?_, w7⟩
      obtain ⟨o, e, d⟩ := T.obj _ _ st5 b hb
      exact (I7.pin (b, o) (List.mem_append_right _ (List.mem_append_right _ (mem_pinsAt hb e)))).2.1
    cases ok with
    | false =>
      rw [if_neg Bool.false_ne_true] at q7 ⊢
      exact wpAny_pure ⟨rfl, again I7 q7⟩
    | true =>
      rw [if_pos rfl] at q7 ⊢
      exact nox_of (hb _ s7 σ6 H7 _ _ _ I7 q7 fun σ8 H8 s8 I8 q8 => wpAny_pure ⟨rfl, again I8 q8⟩) rfl
end
section
variable {X : Cx} {scope : Scope} {loc : List Str} {frees : List (Str × Nat)} {ns : List (Str × NameKind)} {N : List Str} {pos : Pos}
theorem comp_core {e : Expr} {gs : List Comprehension} {g0 : Comprehension} {wi : TI} {tg iter : Expr} {R : CompZ → Addr → It → St → Hp → (Hp → Prop) → Prop} {use : Option (Value → Sem Unit)} {Q : Value → Shared → Prop} {newPos : Pos}
    (hcl : clausesOf e = g0 :: gs) (hg0 : g0.iter = iter) (hi : PI X tg iter wi) (hns : X.env.scope.names = ns) (hN : X.N = N) (hk : scope.kind = .function) (ok : CompOk ns N scope frees)
    (hs : ∀ x, foldedSetIterable iter X.env x = pure x) {pins : List (Addr × Obj)} {s : Shared} {σ : St} {H : Hp} {QH : Addr → Hp → Prop} (I : Inv X pins σ H s)
    (h : wi σ H fun J H1 => ∀ (Z : CompZ) (l : Addr), H1 l = none → R Z l J (σC loc.length frees σ) (upd H1 l (.lst [])) (QH l))
    (block : ∀ (Z : CompZ) (l it : Addr) (fp : List Addr) (tn : Nat → Heap → Prop) (J : It) (H4 : Hp) (s4 : Shared) (σ4 : St), Z.fp = fp → Inv (compCx X (loc ++ frees.map (·.1)) scope Z) [] σ4 H4 s4 → Turn X.prog X.w X.K tg J fp it tn → tn 0 s4.heap →
      (∀ b ∈ fp, FpOk (compCx X (loc ++ frees.map (·.1)) scope Z) [] H4 b) → R Z l J σ4 H4 (QH l) →
      codeAny (model X.prog X.w) X.A (.compStart e 0 (.ref it) (.ref l) (compEnvC scope Z.cl Z.C X.env)) (fun r s' => r = .ok .next ∧ ∃ σ' H', Inv (compCx X (loc ++ frees.map (·.1)) scope Z) [] σ' H' s' ∧ QH l H') s4)
    (fin : ∀ (l C : Addr) (H' : Hp) (s' : Shared), (∃ m, s'.heap.Ns C m) → Inv X pins σ H' s' → H' C = none → X.s₀.heap.objs.size ≤ C → C ≠ X.env.locals → (∀ x c, X.env.cells.lookup x = some c → c ≠ C) → (∀ h', Heap.SameBut C s'.heap h' → Inv X pins σ H' { s' with heap := h' }) → (∀ p ∈ X.pn ++ pins, p.1 ≠ C) → QH l H' →
      compPost (model X.prog X.w) X.A X.xe use Q (.ref l) C (.ok .next) s') :
    wpAny (model X.prog X.w) X.A (comprehension e scope X.env newPos (newList []) false (eval iter X.env) use) Q X.xe s := by
  obtain ⟨cl, hclos, hc1, hc2⟩ := clos_ok (env := X.env) (scope := scope) fun x hx hf => by
    refine I.ok.has x.1 ?_
    have := (ok.1 x hx).2.2 hf
    rw [← hns] at this
    exact this
  have hs' : ∀ x, foldedSetIterable g0.iter X.env x = pure x := by rw [hg0]; exact hs
  refine wpAny_comprehension_free hcl hs' hclos hk (fun x hx hl => (ok.1 x hx).2.1 hl) (thn (hi pins s σ H _ I h) fun v s1 h1 => thn h1 fun itv s2 h2 => ?_)
  obtain ⟨it, fp, tn, J, H2, e2, I2, T, st2, f2, q2⟩ := h2
  subst e2
  refine wpAny_newObj_type (wpAny_newFunctionEnv (fun x hx => (ok.1 x hx).1) (by intro y hy; simp at hy) (fun h₁ hns₁ hsb₁ => ?_) hk)
  dsimp only at hns₁ hsb₁ ⊢
  have hsz : (s2.heap.push { cls := .type "list", dict := none, data := .seq ([] : List Value).toArray }).objs.size = s2.heap.objs.size + 1 := Heap.size_push ..
  generalize hCeq : (s2.heap.push { cls := .type "list", dict := none, data := .seq ([] : List Value).toArray }).objs.size = C at hns₁ hsb₁ hsz ⊢
  have keep : ∀ b o, s2.heap.get? b = some o → h₁.get? b = some o := fun b o e => hsb₁.extBut b o (by rw [hsz]; exact Nat.ne_of_lt (Nat.lt_succ_of_lt (Heap.lt_size e))) (Heap.get?_push_of_some _ (Heap.get?_push_of_some _ e))
  have hacc : h₁.get? s2.heap.objs.size = some { cls := .type "list", dict := none, data := .seq ([] : List Value).toArray } :=
    hsb₁.extBut _ _ (by rw [hsz]; exact Nat.ne_of_lt (Nat.lt_succ_self _)) (Heap.get?_push_of_some _ (Heap.get?_push_size _ rfl))
  have live : ∀ b ∈ fp, ∃ o, s2.heap.get? b = some o := fun b hb => let ⟨o, ho, _⟩ := T.obj _ _ st2 b hb; ⟨o, ho⟩
  have J0 := comp_start (scope := scope) (loc := loc) (frees := frees) (tk := s2.toks + ([] : List (Str × Value)).length) I2 hns hN hk ok f2 live hc1 hc2 hsz ⟨_, hns₁⟩ hacc keep
  have hln : H2 s2.heap.objs.size = none := I2.hok.fresh (Nat.le_refl _)
  have B := block ⟨cl, C, s2, H2, fp, X.pn ++ pins⟩ s2.heap.objs.size it fp tn J _ _ _ rfl J0 T (T.keep _ _ _ st2 fun b _ o e => keep b o e) (fun b hb => by
    obtain ⟨o, ho⟩ := live b hb
    obtain ⟨z0, z1, z2, z3, z4, z5⟩ := f2 b hb
    refine ⟨?_, ?_, fun z => ?_, .inl hb, fun x c e => z4 x c (hc1 x c e), fun p hp => z5 p ?_⟩
    · rw [upd_ne (Nat.ne_of_lt (Heap.lt_size ho))]; exact z0
    · show b ≠ C
      rw [hsz]; exact Nat.ne_of_lt (Nat.lt_succ_of_lt (Heap.lt_size ho))
    · rcases List.mem_cons.mp (I2.stkSub b z) with y | y
      · exact z1 y
      · exact z2 y
    · rcases List.mem_append.mp hp with y | y
      · exact y
      · exact absurd y (by simp)) (q2 _ _ hln)
  refine codeAny_mono B fun r s' hr => ?_
  obtain ⟨rfl, σ', H', J', q'⟩ := hr
  obtain ⟨m', hm', _⟩ := J'.loc
  have hCl : C ≠ X.env.locals := fun z => by
    have := I2.lt
    rw [← z, hsz] at this; exact Nat.lt_irrefl _ (Nat.lt_of_succ_lt this)
  have hCc : ∀ x c, X.env.cells.lookup x = some c → c ≠ C := fun x c e z => by
    obtain ⟨v, q⟩ := I2.cell x c e
    have := q.lt
    rw [z, hsz] at this; exact Nat.lt_irrefl _ (Nat.lt_of_succ_lt this)
  have hCp : ∀ p ∈ X.pn ++ pins, p.1 ≠ C := fun p hp z => by
    have := Heap.lt_size (I2.pin p hp).1
    rw [z, hsz] at this; exact Nat.lt_irrefl _ (Nat.lt_of_succ_lt this)
  exact fin s2.heap.objs.size C H' s' ⟨m', hm'⟩ (by have := comp_back I2 f2 hsz J' (Heap.SameBut.refl C s'.heap); exact this) J'.free (by rw [hsz]; exact Nat.le_trans I2.sz (Nat.le_succ _)) hCl hCc (fun h' hs => comp_back I2 f2 hsz J' hs) hCp q'
theorem pe_comp1 {elt tg iter : Expr} {ifs : List Expr} {wi : TI} {g : CompZ → TG} {tt : CompZ → TT} {te : CompZ → TE} (ns : List (Str × NameKind)) (N : List Str) (loc : List Str) (frees : List (Str × Nat)) (hc : X.calm = true) (hi : PI X tg iter wi)
    (hns : X.env.scope.names = ns) (hN : X.N = N) (hk : scope.kind = .function) (ok : CompOk ns N scope frees)
    (hg : ∀ Z, PG (compCx X (loc ++ frees.map (·.1)) scope Z) tg (g Z)) (ht : ∀ Z, PTs (compCx X (loc ++ frees.map (·.1)) scope Z) ifs (tt Z)) (he : ∀ Z, PE (compCx X (loc ++ frees.map (·.1)) scope Z) elt (te Z))
    (hs : ∀ x, foldedSetIterable iter X.env x = pure x := by intro _; rfl) : PE X (.ListComp elt [⟨tg, iter, ifs, 0⟩] scope pos) (tComp1 wi g tt te loc.length frees) := by
  intro pins s σ H Q I h
  rw [eval_ListComp]
  refine comp_core (e := .ListComp elt [⟨tg, iter, ifs, 0⟩] scope pos) (g0 := ⟨tg, iter, ifs, 0⟩) (gs := []) (tg := tg) (iter := iter) (loc := loc) (R := fun Z l J σ H QH => tForJ J (g Z) (tBodyC (tt Z) (tEmit l (te Z))) (eC fun _ H' => QH H') σ H) (use := none) (QH := fun l H' => Q (.ref l) H') rfl rfl hi hns hN hk ok hs I h ?_ ?_
  · intro Z l it fp tn J H4 s4 σ4 hfp I4 T st4 f4 q4
    have L := comp_loop (Y := compCx X (loc ++ frees.map (·.1)) scope Z) rfl hc (turn_1 elt tg iter ifs scope pos (.ref it) (.ref l) _) (hg Z) (ht Z) (pb_emit rfl (he Z)) I4 T st4 f4 q4
    refine codeAny_mono (codeAny_compStart_list L (T.self _ _ _ _ _ st4 L)) fun r s' hr => ?_
    exact hr
  · intro l C H' s' hm J' hn h1 h2 h3 h4 _ q'
    obtain ⟨m, hm⟩ := hm
    exact ⟨m, hm, fun h' hs' => ⟨.ref l, H', h4 h' hs', rfl, q'⟩⟩
theorem ps_setC1 {i : Nat} {x : Str} {pos' apos : Pos} {elt tg iter : Expr} {ifs : List Expr} {wi : TI} {g : CompZ → TG} {tt : CompZ → TT} {te : CompZ → TE} (ns : List (Str × NameKind)) (N : List Str) (loc : List Str) (frees : List (Str × Nat)) (hc : X.calm = true) (hND : X.N.Nodup) (hix : X.N[i]? = some x) (hxl : X.env.scope.names.lookup x = some .local) (hi : PI X tg iter wi)
    (hns : X.env.scope.names = ns) (hN : X.N = N) (hk : scope.kind = .function) (ok : CompOk ns N scope frees)
    (hg : ∀ Z, PG (compCx X (loc ++ frees.map (·.1)) scope Z) tg (g Z)) (ht : ∀ Z, PTs (compCx X (loc ++ frees.map (·.1)) scope Z) ifs (tt Z)) (he : ∀ Z, PE (compCx X (loc ++ frees.map (·.1)) scope Z) elt (te Z))
    (hsw : swapsWith (.ListComp elt [⟨tg, iter, ifs, 0⟩] scope pos) (some (.Name x pos')) apos.line X.env = pure true := by rfl)
    (hs : ∀ x, foldedSetIterable iter X.env x = pure x := by intro _; rfl) : PS X (.Assign [.Name x pos'] (.ListComp elt [⟨tg, iter, ifs, 0⟩] scope pos) apos) (tAsg (tComp1 wi g tt te loc.length frees) (gName i)) := by
  intro pins s σ H D I h
  rw [exec_Assign_Name_used _ _ _ _ hsw]
  refine wpAny_bind (wpAny_standAt (wpAny_bind ?_))
  show wpAny _ X.A (do let _ ← comprehension (.ListComp elt [⟨tg, iter, ifs, 0⟩] scope pos) scope X.env _ (newList []) false (eval iter X.env) (some (assign (.Name x pos') X.env))) _ _ s
  refine wpAny_bind ?_
  have key := comp_core (X := X) (e := .ListComp elt [⟨tg, iter, ifs, 0⟩] scope pos) (g0 := ⟨tg, iter, ifs, 0⟩) (gs := []) (tg := tg) (iter := iter) (newPos := firstIterPos [⟨tg, iter, ifs, 0⟩] pos) (loc := loc) (R := fun Z l J σ H QH => tForJ J (g Z) (tBodyC (tt Z) (tEmit l (te Z))) (eC fun _ H' => QH H') σ H) (use := some (assign (.Name x pos') X.env)) (QH := fun l H' => D.nx (σ.set i (some (.ref l))) H') (Q := fun _ s' => SP X pins D .next s') rfl rfl hi hns hN hk ok hs I h ?_ ?_
  · exact thn key fun _ s' hq => wpAny_pure (wpAny_pure hq)
  · intro Z l it fp tn J H4 s4 σ4 hfp I4 T st4 f4 q4
    have L := comp_loop (Y := compCx X (loc ++ frees.map (·.1)) scope Z) rfl hc (turn_1 elt tg iter ifs scope pos (.ref it) (.ref l) _) (hg Z) (ht Z) (pb_emit rfl (he Z)) I4 T st4 f4 q4
    refine codeAny_mono (codeAny_compStart_list L (T.self _ _ _ _ _ st4 L)) fun r s' hr => ?_
    exact hr
  · intro l C H' s' hm J' hn h1 h2 h3 h4 h5 q'
    obtain ⟨m, hm⟩ := hm
    show wpAny _ X.A (assign (.Name x pos') X.env (.ref l)) _ _ _
    refine wpAny_assign_Name (store_ok2 J' hND hix (.inl hxl) (v := .ref l) rfl (fun s'' I'' hsb => ?_) (.inr hxl))
    obtain ⟨a, hsb, ha⟩ := hsb
    have haC : C ≠ a := by
      rcases ha with z | z
      · rw [z]; exact h2
      · exact fun y => h3 x a z y.symm
    refine ⟨m, hm.sameBut hsb haC, fun h' hs' => ⟨_, H', ?_, q'⟩⟩
    exact I''.turned (it := C) (t' := s''.toks) (fun b o hb e => (hs'.2 b hb).trans e) hn h2 (.inr h1) h3 h5
end
end L2
set_option Elab.async false
set_option linter.all false
set_option maxRecDepth 100000
set_option maxHeartbeats 4000000
namespace PySem
open Sem (wp)
open AutoSeq1 (wpAny_loadPart')
section
variable {prog : Program} {w : World} {A : Around} {E : Value → Shared → Prop} {s : Shared}
end
section
variable {prog : Program} {w : World} {A : Around} {E : Value → Shared → Prop} {s : Shared}
end
end PySem
set_option Elab.async false
set_option linter.all false
set_option maxRecDepth 100000
set_option maxHeartbeats 4000000
namespace PySem
open Sem (wp)
open Builtin
open AutoSeq1 (wpAny_loadPart')
namespace F
end F
section
variable {prog : Program} {w : World} {A : Around} {E : Value → Shared → Prop} {s : Shared} {a : Addr} {xs : Array Value} {k : Nat} {sl : Array (Option Value)}
end
end PySem
set_option Elab.async false
set_option linter.all false
set_option maxRecDepth 100000
set_option maxHeartbeats 4000000
namespace PySem
open Sem (wp)
open Builtin
open AutoSeq1 (wpAny_loadPart')
section
variable {prog : Program} {w : World} {K : Type} [DecidableEq K] {knd : KeyKind prog w K} {A : Around} {E : Value → Shared → Prop} {R : Result → Shared → Prop}
end
end PySem
set_option Elab.async false
set_option linter.all false
set_option maxRecDepth 100000
set_option maxHeartbeats 4000000
namespace L2
open PySem PySem.Spec PyProof.Rows
section
variable {X : Cx}
theorem call_isinst : CallR X (.builtin "isinstance") (fun xs H Q => ∃ x T t b, xs = [x, .ty T] ∧ TyOf X.K H x t ∧ PySem.W.kitOne X.K t (.type T) = some b ∧ Q (.bl b) H) := by
  intro pins s σ H xs us Q I r h
  obtain ⟨x, T, t, b, rfl, ty, e, q⟩ := h
  obtain ⟨u, w', rfl, rx, rT⟩ := vals2 r
  cases (show w' = Value.type T from rT)
  exact isinst_ok I rx ty e fun tk => ⟨.bl b, H, I.tok _, rfl, q⟩
theorem bools_of : ∀ {bs : List Bool} {us : List Value}, Vals (bs.map V.bl) us → LSm.BoolsAre us bs
  | [], _, .nil => .nil
  | b :: bs, _, .cons r t => by
    cases (show _ = Value.bool b from r)
    exact .cons b (bools_of t)
end
section
variable {X : Cx} {pins : List (Addr × Obj)} {σ : St} {H : Hp} {s : Shared}
theorem call_all (hc : X.calm = true) : CallR X (.builtin "all") (fun xs H Q => ∃ (p : Addr) (bs : List Bool), xs = [.ref p] ∧ SqL X.K H p (bs.map V.bl) ∧ Q (.bl (bs.all id)) H) := by
  intro pins s σ H xs us Q I r h
  obtain ⟨p, bs, rfl, hq, q⟩ := h
  obtain ⟨u, rfl, rx⟩ := vals1 r
  cases rx
  obtain ⟨its, rv, pl, hz⟩ := I.list hq
  have hb := bools_of rv
  have hlt : p < s.heap.objs.size := by obtain ⟨_, e, _⟩ := pl.isList; exact Heap.lt_size e
  refine call_all_walk (wpAny_pyIter_list pl.isList ?_)
  refine ⟨s.heap.objs.size, [s.heap.objs.size, p], [s.heap.objs.size], its.toArray.size, _, _, fun i => (bs[i]?).getD true, rfl, Walks.list (A := X.A.in1) (by simp [I.ok.hd hc]) _ p (Nat.ne_of_lt hlt) its.toArray, ⟨⟨_, Heap.get?_push_size _ rfl, rfl, rfl⟩, pl.isList.push _⟩, fun i v s' Q' E' hP hQ => ?_, fun h' tk hk => ?_⟩
  · obtain ⟨b, e, rfl⟩ := hb.get i v (by simpa using hP)
    dsimp only at hQ; rw [e] at hQ
    exact wpAny_truthy_bool hQ
  · have e : ((List.range its.toArray.size).all fun i => (bs[i]?).getD true) = bs.all id := by rw [List.size_toArray, hb.length, LSm.range_all]
    rw [e]
    exact ⟨.bl _, H, I.kept (h' := h') (t' := tk) (LSm.kept_iter hk), rfl, q⟩
theorem call_any (hc : X.calm = true) : CallR X (.builtin "any") (fun xs H Q => ∃ (p : Addr) (bs : List Bool), xs = [.ref p] ∧ SqL X.K H p (bs.map V.bl) ∧ Q (.bl (bs.any id)) H) := by
  intro pins s σ H xs us Q I r h
  obtain ⟨p, bs, rfl, hq, q⟩ := h
  obtain ⟨u, rfl, rx⟩ := vals1 r
  cases rx
  obtain ⟨its, rv, pl, hz⟩ := I.list hq
  have hb := bools_of rv
  have hlt : p < s.heap.objs.size := by obtain ⟨_, e, _⟩ := pl.isList; exact Heap.lt_size e
  refine call_any_walk (wpAny_pyIter_list pl.isList ?_)
  refine ⟨s.heap.objs.size, [s.heap.objs.size, p], [s.heap.objs.size], its.toArray.size, _, _, fun i => (bs[i]?).getD false, rfl, Walks.list (A := X.A.in1) (by simp [I.ok.hd hc]) _ p (Nat.ne_of_lt hlt) its.toArray, ⟨⟨_, Heap.get?_push_size _ rfl, rfl, rfl⟩, pl.isList.push _⟩, fun i v s' Q' E' hP hQ => ?_, fun h' tk hk => ?_⟩
  · obtain ⟨b, e, rfl⟩ := hb.get i v (by simpa using hP)
    dsimp only at hQ; rw [e] at hQ
    exact wpAny_truthy_bool hQ
  · have e : ((List.range its.toArray.size).any fun i => (bs[i]?).getD false) = bs.any id := by rw [List.size_toArray, hb.length, LSm.range_any]
    rw [e]
    exact ⟨.bl _, H, I.kept (h' := h') (t' := tk) (LSm.kept_iter hk), rfl, q⟩
theorem Inv.turnedL {fp : List Addr} {h' : Heap} {t' : Nat} (I : Inv X pins σ H s) (k : ∀ b o, b ∉ fp → s.heap.get? b = some o → h'.get? b = some o) (hf : ∀ b ∈ fp, FpOk X pins H b) : Inv X pins σ H { s with heap := h', toks := t' } := by
  have nfp : ∀ b u, H b = some u → b ∉ fp := fun b u e z => by rw [(hf b z).1] at e; cases e
  refine I.step (g' := s.gens) (d' := s.drawn) (ch := fp) (fun b hb => ⟨(hf b hb).2.2.2.1, (hf b hb).2.1, (hf b hb).2.2.2.2.1, (hf b hb).2.2.2.2.2⟩) (fun b o _ _ hc e _ => k b o hc e) (fun b o _ _ hc e _ => ⟨o.slots, k b o hc e⟩) (fun _ _ _ _ n => n) (fun b o hc e => ⟨o, k b o hc e⟩)
    (fun _ _ e => e) (fun _ _ _ e => e) (fun b ps e => ⟨#[], by rw [e]; simp⟩) (fun m hm => ?_) (fun b u e => ?_) I.bare
  · obtain ⟨o, es, ep, ho, r⟩ := hm
    exact ⟨o, es, ep, k _ o (fun z => (hf _ z).2.1 rfl) ho, r⟩
  · refine (I.hok b u e).stay (fun c v hc q => k c v ?_ q) (fun _ q => q) fun _ _ q => q
    rcases hc with z | z
    · rw [z]; exact nfp b u e
    · exact nfp c _ z
theorem Inv.turnLaid {fp : List Addr} {h' : Heap} {t' : Nat} {p : Addr} {o : HO} (I : Inv X pins σ H s) (k : ∀ b u, b ∉ fp → s.heap.get? b = some u → h'.get? b = some u) (hf : ∀ b ∈ fp, FpOk X pins H b) (hp : s.heap.objs.size ≤ p)
    (new : ObjOk X.prog X.w (upd H p o) h' p o) : Inv X pins σ (upd H p o) { s with heap := h', toks := t' } := by
  have nfp : ∀ b u, H b = some u → b ∉ fp := fun b u e z => by rw [(hf b z).1] at e; cases e
  have hn := I.hok.fresh hp
  have old : ∀ {b : Addr} {u : Obj}, s.heap.get? b = some u → b ≠ p := fun e => Nat.ne_of_lt (Nat.lt_of_lt_of_le (Heap.lt_size e) hp)
  refine I.step (g' := s.gens) (d' := s.drawn) (ch := fp) (fun b hb => ⟨(hf b hb).2.2.2.1, (hf b hb).2.1, (hf b hb).2.2.2.2.1, (hf b hb).2.2.2.2.2⟩) (fun b o _ _ hc e _ => k b o hc e) (fun b o _ _ hc e _ => ⟨o.slots, k b o hc e⟩) (fun b o _ e n => by rw [upd_ne (old e)]; exact n) (fun b o hc e => ⟨o, k b o hc e⟩)
    (fun b xs e => by rw [upd_ne (ne_of_none e hn)]; exact e) (fun b u xs e => by rw [upd_ne (ne_of_none e hn)]; exact e) (fun b ps e => ⟨#[], by rw [upd_ne (ne_of_none e hn), e]; simp⟩) (fun m hm => ?_) (fun b u e => ?_) I.bare
  · obtain ⟨o, es, ep, ho, r⟩ := hm
    exact ⟨o, es, ep, k _ o (fun z => (hf _ z).2.1 rfl) ho, r⟩
  · by_cases hb : b = p
    · subst hb; rw [upd_same] at e; cases e; exact new
    · rw [upd_ne hb] at e
      refine (I.hok b u e).stay (fun c v hc q => k c v ?_ q) (fun c q => by rw [upd_ne (ne_of_none q hn)]; exact q) fun c xs q => by rw [upd_ne (ne_of_none q hn)]; exact q
      rcases hc with z | z
      · rw [z]; exact nfp b u e
      · exact nfp c _ z
end
end L2
set_option Elab.async false
set_option linter.all false
set_option maxRecDepth 100000
set_option maxHeartbeats 4000000
namespace L2
open PySem PySem.Spec PyProof.Rows
section
variable {X : Cx} {pins : List (Addr × Obj)} {σ : St} {H : Hp} {s : Shared}
noncomputable def NewTup (H : Hp) (ys : List V) (Q : VK) : Prop := ∀ p H', Same H H' → H' p = some (.tup ys) → Q (.ref p) H'
theorem same_upd {H : Hp} {p : Addr} {o : HO} (h : H p = none) : Same H (upd H p o) := fun b u e => by rw [upd_ne (ne_of_none e h)]; exact e
theorem NewTup.new {ys : List V} {Q : VK} {p : Addr} (h : NewTup H ys Q) (hp : H p = none) : Q (.ref p) (upd H p (.tup ys)) := h p _ (same_upd hp) upd_same
theorem NewTup.old {ys : List V} {Q : VK} {p : Addr} (h : NewTup H ys Q) (hp : H p = some (.tup ys)) : Q (.ref p) H := h p H (Same.refl H) hp
theorem Inv.newTup {ys : List V} {its : List Value} {Q : VK} (I : Inv X pins σ H s) (r : Vals ys its) (hz : ys.length ≤ sizeLine) (h : NewTup H ys Q) : EP X pins σ Q (.ref s.heap.objs.size) { s with heap := s.heap.push { cls := .type "tuple", data := .seq its.toArray } } :=
  ⟨.ref s.heap.objs.size, _, I.laid (t' := s.toks) (o := .tup ys) (fun b ob q => Heap.get?_push_of_some _ q) (Nat.le_refl _) ⟨hz, _, r, IsTup.new _ _⟩, rfl, h.new (I.hok.fresh (Nat.le_refl _))⟩
noncomputable def rCatU : R2 := fun x y H Q => ∃ a b xs ys, x = .ref a ∧ y = .ref b ∧ H a = some (.tup xs) ∧ H b = some (.tup ys) ∧ xs.length + ys.length ≤ sizeLine ∧ NewTup H (xs ++ ys) Q
theorem op_catU : OpR X (binaryOp .Add) rCatU := by
  intro pins s σ H x y v u Q I rx ry h
  obtain ⟨a, b, xs, ys, rfl, rfl, ha, hb, hz, q⟩ := h
  cases rx
  cases ry
  obtain ⟨its, r1, p1, _⟩ := I.tuple (SqT.of ha)
  obtain ⟨its2, r2, p2, _⟩ := I.tuple (SqT.of hb)
  by_cases hx : xs = []
  · subst hx
    cases r1
    obtain ⟨⟨c1, d1, t1, l1⟩, ho, hc, n, hd⟩ := id p1
    obtain ⟨⟨c2, d2, t2, l2⟩, ho2, hc2, n2, hd2⟩ := id p2
    simp only at hc hd hc2 hd2
    subst hc hd hc2 hd2
    exact concat_meets ⟨_, ho, rfl⟩ ⟨_, ho2, rfl⟩ noFill_tuple_add seq_tuple_add PySem.F.slot_tuple_add PySem.F.entry_tuple_add (PySem.F.args_tuple_add_2 _ _) (tuple_addW0 a b _ _ n n2 d1 d2 l1 l2 (by simp)) ⟨ho, ho2, .ref b, H, I, rfl, q.old hb⟩
  · refine HT.cat_tup p1 p2 (fun z => hx (r1.nil_iff.mp z)) (fun z => ⟨.ref a, H, I, rfl, ?_⟩) (fun z => I.newTup (r1.append r2) (by rw [List.length_append]; exact hz) q) (by rw [← r1.length, ← r2.length]; exact hz)
    have : ys = [] := r2.nil_iff.mp z
    subst this
    rw [List.append_nil] at q
    exact q.old ha
theorem slice_same {t sl : Addr} {items : Array Value} {vl vu : Value} {lo hi : Option Int} {Q : Value → Shared → Prop} {prog : Program} {w : World} {A : Around} {E : Value → Shared → Prop} (ht : IsTup s.heap t items) (hs : s.heap.IsSliceOf sl vl vu .none) (pl : IsPart vl lo) (pu : IsPart vu hi)
    (hw : HT.sIx items.size 0 lo = 0 ∧ HT.sIx items.size items.size hi = items.size) (h : Q (.ref t) s) : wpAny (model prog w) A (getItem (.ref t) (.ref sl)) Q E s := by
  obtain ⟨os, hos, hcs, hds⟩ := id hs
  have hTs : s.TypeIs (.ref sl) "slice" := ⟨os, hos, hcs⟩
  unfold getItem
  try with_reducible refine wpAny_holding ?_
  first | refine wpAny_bind (wpAny_pure ?_) | skip
  refine wpAny_bind (wpAny_sequenceKey ht.typeIs (by decide) (wpAny_bind (wpAny_callSpecial?_slot (name := Str.ofString "__getitem__") ht.typeIs PyProof.Rows.slot_tuple_getitem (wpAny_call_entry PyProof.Rows.slot_tuple_getitem ht.typeIs entry_tuple_getitem ?_ (args_tuple_getitem _ _)))))
  show wpAny _ _ (Builtin.Tuple.tupleItemsOf (.ref t) >>= _) _ _ s
  refine wpAny_bind (tupleItemsOf_ ht (wpAny_bind (wpAny_typeOf hTs ?_)))
  rw [if_pos (by decide)]
  refine wpAny_bind (HT.sliceApplied_gen hs pl pu ?_)
  have hyes : (((HT.sIx items.size 0 lo : Nat) : Int) == 0 && (1 : Int) == 1 && (HT.sIx items.size items.size hi - HT.sIx items.size 0 lo) == items.size) = true := by rw [hw.1, hw.2]; simp
  show wpAny _ _ (if (((HT.sIx items.size 0 lo : Nat) : Int) == 0 && (1 : Int) == 1 && (HT.sIx items.size items.size hi - HT.sIx items.size 0 lo) == items.size) = true then _ else _) _ _ s
  rw [if_pos hyes]
  obtain ⟨⟨c1, d1, t1, l1⟩, ho, hc, n, hd⟩ := id ht
  simp only at hc hd
  subst hc hd
  obtain ⟨hp, g, d, tk, osx⟩ := s
  wp_walk using AutoSeq1.wpAny_loadPart' ho
  all_goals first | exact ⟨_, rfl, h⟩ | exact ⟨_, rfl, wpAny_pure h⟩
noncomputable def rSlU : V → Option Int → Option Int → Hp → VK → Prop := fun x lo hi H Q => ∃ a xs, x = .ref a ∧ H a = some (.tup xs) ∧ NewTup H (cutV xs lo hi) Q
theorem sl_tupU : SlR X rSlU := by
  intro pins s σ H x v vl vu lo hi sl Q I rx hs pl pu h
  obtain ⟨a, xs, rfl, hx, q⟩ := h
  cases rx
  obtain ⟨its, r, ht, hz⟩ := I.tuple (SqT.of hx)
  have hlen : its.toArray.size = xs.length := by rw [List.size_toArray]; exact r.length.symm
  refine ⟨"tuple", _, PyProof.Rows.slot_tuple_getitem.lookup, ht.typeIs, ?_⟩
  by_cases hw : HT.sIx xs.length 0 lo = 0 ∧ HT.sIx xs.length xs.length hi = xs.length
  · refine slice_same ht hs pl pu (by rw [hlen]; exact hw) ⟨.ref a, H, I, rfl, ?_⟩
    have : cutV xs lo hi = xs := by unfold cutV; rw [hw.1, hw.2]; simp
    rw [this] at q
    exact q.old hx
  · refine HT.getItem_tuple_cut ht hs pl pu (by rw [hlen]; exact hw) ?_ (by rw [hlen]; exact hz)
    rw [hlen]
    exact I.newTup ((r.drop (HT.sIx xs.length 0 lo)).take (HT.sIx xs.length xs.length hi - HT.sIx xs.length 0 lo)) (Nat.le_trans (cutV_length xs lo hi) hz) q
end
end L2
namespace L2
open PySem PySem.Spec PyProof.Rows
section
variable {X : Cx} {pos : Pos}
end
end L2
set_option Elab.async false
set_option linter.all false
set_option maxRecDepth 100000
set_option maxHeartbeats 4000000
namespace L2
open PySem PySem.Spec PyProof.Rows
section
variable {X : Cx} {pins : List (Addr × Obj)} {σ : St} {H : Hp} {s : Shared}
end
section
variable {X : Cx} {es : List Expr} {te : TE} {t : TA}
theorem pa_c {c j pos} (he : PE X (.Constant c j pos) te) (hr : PA X es t) : PA X (.Constant c j pos :: es) (tCons te t) := pa_cons he hr rfl
theorem pa_v {x pos} (he : PE X (.Name x pos) te) (hr : PA X es t) : PA X (.Name x pos :: es) (tCons te t) := pa_cons he hr rfl
theorem pa_b {a o b pos} (he : PE X (.BinOp a o b pos) te) (hr : PA X es t) : PA X (.BinOp a o b pos :: es) (tCons te t) := pa_cons he hr rfl
theorem pa_k {f a k pos} (he : PE X (.Call f a k pos) te) (hr : PA X es t) : PA X (.Call f a k pos :: es) (tCons te t) := pa_cons he hr rfl
theorem pa_t {a k pos} (he : PE X (.Tuple a k pos) te) (hr : PA X es t) : PA X (.Tuple a k pos :: es) (tCons te t) := pa_cons he hr rfl
theorem pa_l {a pos} (he : PE X (.List a pos) te) (hr : PA X es t) : PA X (.List a pos :: es) (tCons te t) := pa_cons he hr rfl
theorem pa_s {a b pos} (he : PE X (.Subscript a b pos) te) (hr : PA X es t) : PA X (.Subscript a b pos :: es) (tCons te t) := pa_cons he hr rfl
theorem pa_lc {a b c pos} (he : PE X (.ListComp a b c pos) te) (hr : PA X es t) : PA X (.ListComp a b c pos :: es) (tCons te t) := pa_cons he hr rfl
end
@[irreducible] def PAq (X : Cx) (es : List Expr) (t : TA) : Prop := PA X es t
section
variable {X : Cx} {es : List Expr} {te : TE} {t : TA}
theorem pa_q (h : PAq X es t) : PA X es t := by unfold PAq at h; exact h
theorem pq_nil : PAq X [] tNil := by unfold PAq; exact pa_nil
theorem pq_i {i j pos} (hr : PAq X es t) : PAq X (.Constant (.int i) j pos :: es) (tCons (tC (.int i)) t) := by unfold PAq at *; exact pa_c pe_int hr
theorem pq_b {a o b pos} (he : PE X (.BinOp a o b pos) te) (hr : PAq X es t) : PAq X (.BinOp a o b pos :: es) (tCons te t) := by unfold PAq at *; exact pa_b he hr
end
@[irreducible] def PSsq (X : Cx) (st : List Stmt) (t : TS) : Prop := PSs X st t
section
variable {X : Cx} {es : List Expr} {t : TA} {tb : TE} {b : Expr} {p1 p2 p3 pos : Pos}
end
@[irreducible] def PEq (X : Cx) (e : Expr) (t : TE) : Prop := PE X e t
@[irreducible] def PSq (X : Cx) (st : Stmt) (t : TS) : Prop := PS X st t
section
variable {X : Cx} {es : List Expr} {t : TA} {te tb : TE} {b e : Expr} {p1 p2 p3 pos : Pos}
end
section
variable {X : Cx} {es : List Expr} {t : TA} {te : TE} {e : Expr} {p1 p3 : Pos}
theorem lstq (h : PAq X es t) : PEq X (.List es p1) (tLst t) := by unfold PEq; exact pe_lst (pa_q h)
theorem pq_lq {a pos} (he : PEq X (.List a pos) te) (hr : PAq X es t) : PAq X (.List a pos :: es) (tCons te t) := by unfold PEq at he; unfold PAq at *; exact pa_l he hr
end
end L2
set_option Elab.async false
set_option linter.all false
set_option maxRecDepth 100000
set_option maxHeartbeats 4000000
namespace L2
open PySem PySem.Spec PyProof.Rows
noncomputable def Kn (H : Hp) : Nat → V → Prop
  | 0, _ => True
  | n + 1, v => match v with
    | .non => True
    | .bl _ => True
    | .int _ => True
    | .str _ => True
    | .ref a => (∃ xs, H a = some (.lst xs)) ∨ (∃ kvs, H a = some (.dK kvs)) ∨ ∃ xs, H a = some (.tup xs) ∧ xs.length ≤ 1000 ∧ ∀ x ∈ xs, Kn H n x
    | _ => False
noncomputable def KnA (H : Hp) (v : V) : Prop := ∀ n, Kn H n v
structure Ext (H H' : Hp) : Prop where
  tup : ∀ a xs, H a = some (.tup xs) → H' a = some (.tup xs)
  lst : ∀ a xs, H a = some (.lst xs) → ∃ ys, H' a = some (.lst ys)
  dct : ∀ a kvs, H a = some (.dK kvs) → H' a = some (.dK kvs)
theorem Same.ext {H H' : Hp} (s : Same H H') : Ext H H' := ⟨fun _ _ h => s _ _ h, fun _ xs h => ⟨xs, s _ _ h⟩, fun _ _ h => s _ _ h⟩
theorem Kn.le {H : Hp} : ∀ {n m : Nat} {v : V}, n ≤ m → Kn H m v → Kn H n v
  | 0, _, _, _, _ => True.intro
  | n + 1, 0, _, h, _ => absurd h (by (first | lia | omega))
  | n + 1, m + 1, v, h, k => by
    cases v with
    | ref a =>
      rcases k with ⟨xs, k⟩ | ⟨kvs, k⟩ | ⟨xs, k, hl, hx⟩
      · exact .inl ⟨xs, k⟩
      · exact .inr (.inl ⟨kvs, k⟩)
      · exact .inr (.inr ⟨xs, k, hl, fun x hm => Kn.le (by (first | lia | omega)) (hx x hm)⟩)
    | _ => exact k
theorem KnA.int {H : Hp} (i : Int) : KnA H (.int i) := fun n => by cases n <;> exact True.intro
theorem KnA.tup {H : Hp} {a : Addr} {xs : List V} (h : H a = some (.tup xs)) (hl : xs.length ≤ 1000) (hx : ∀ x ∈ xs, KnA H x) : KnA H (.ref a) := fun n => by
  cases n with
  | zero => exact True.intro
  | succ n => exact .inr (.inr ⟨xs, h, hl, fun x hm => hx x hm n⟩)
noncomputable def isInt : V → Bool | .int _ => true | _ => false
noncomputable def isBl : V → Bool | .bl _ => true | _ => false
noncomputable def tupOf (H : Hp) : V → Option (List V)
  | .ref a => match H a with | some (.tup xs) => some xs | _ => none
  | _ => none
theorem tupOf_of {H : Hp} {a : Addr} {xs : List V} (h : H a = some (.tup xs)) : tupOf H (.ref a) = some xs := by simp [tupOf, h]
theorem of_tupOf {H : Hp} {v : V} {xs : List V} (h : tupOf H v = some xs) : ∃ a, v = .ref a ∧ H a = some (.tup xs) := by
  cases v with
  | ref a =>
    unfold tupOf at h
    cases e : H a with
    | none => simp [e] at h
    | some o => cases o <;> simp [e] at h; subst h; exact ⟨a, rfl, e⟩
  | _ => simp [tupOf] at h
section
variable {K : PySem.W.Frag}
theorem ty_of {H : Hp} {v : V} (k : Kn H 1 v) : ∃ t, TyOf K H v t ∧ PySem.W.kitOne K t (.type "int") = some (isInt v || isBl v) ∧ PySem.W.kitOne K t (.type "bool") = some (isBl v) ∧ PySem.W.kitOne K t (.type "tuple") = some (tupOf H v).isSome := by
  cases v with
  | non => exact ⟨_, .non, by kernel_rfl, by kernel_rfl, by kernel_rfl⟩
  | bl b => exact ⟨_, .bl b, by kernel_rfl, by kernel_rfl, by kernel_rfl⟩
  | int i => exact ⟨_, .int i, by kernel_rfl, by kernel_rfl, by kernel_rfl⟩
  | str x => exact ⟨_, .str x, by kernel_rfl, by kernel_rfl, by kernel_rfl⟩
  | ref a =>
    rcases k with ⟨xs, k⟩ | ⟨kvs, k⟩ | ⟨xs, k, hl, hx⟩
    · refine ⟨_, .lst k, by kernel_rfl, by kernel_rfl, ?_⟩
      have : (tupOf H (.ref a)).isSome = false := by simp [tupOf, k]
      rw [this]; kernel_rfl
    · refine ⟨_, .dK k, by kernel_rfl, by kernel_rfl, ?_⟩
      have : (tupOf H (.ref a)).isSome = false := by simp [tupOf, k]
      rw [this]; kernel_rfl
    · refine ⟨_, .tup k, by kernel_rfl, by kernel_rfl, ?_⟩
      have : (tupOf H (.ref a)).isSome = true := by simp [tupOf, k]
      rw [this]; kernel_rfl
  | _ => exact (show False from k).elim
end
noncomputable def numIn (lo hi : Int) : V → Bool | .int i => decide (lo ≤ i) && decide (i ≤ hi) | _ => false
noncomputable def PenAt (H : Hp) (p : Addr) : Prop := ∃ x f : Int, H p = some (.lst [.int x, .int f])
structure Stp (p : Addr) (H H' : Hp) : Prop where
  pen : PenAt H' p
  keep : ∀ b o, b ≠ p → H b = some o → H' b = some o
theorem Stp.refl {p : Addr} {H : Hp} (h : PenAt H p) : Stp p H H := ⟨h, fun _ _ _ e => e⟩
theorem Stp.trans {p : Addr} {H H1 H2 : Hp} (a : Stp p H H1) (b : Stp p H1 H2) : Stp p H H2 := ⟨b.pen, fun c o h e => b.keep c o h (a.keep c o h e)⟩
theorem Stp.same {p : Addr} {H H1 H2 : Hp} (a : Stp p H H1) (s : Same H1 H2) : Stp p H H2 := ⟨let ⟨x, f, e⟩ := a.pen; ⟨x, f, s _ _ e⟩, fun b o h e => s _ _ (a.keep b o h e)⟩
theorem PenAt.ne {H : Hp} {p b : Addr} {o : HO} (h : PenAt H p) (e : H b = some o) (n : ∀ xs, o ≠ .lst xs) : b ≠ p := fun z => by
  obtain ⟨x, f, e2⟩ := h
  rw [z, e2] at e
  cases e
  exact n _ rfl
theorem Stp.ext {p : Addr} {H H' : Hp} (h : PenAt H p) (s : Stp p H H') : Ext H H' where
  tup := fun a xs e => s.keep a _ (h.ne e (by intro z; simp)) e
  lst := fun a xs e => by
    by_cases ha : a = p
    · obtain ⟨x, f, e2⟩ := s.pen
      exact ⟨_, by rw [ha]; exact e2⟩
    · exact ⟨xs, s.keep a _ ha e⟩
  dct := fun a kvs e => s.keep a _ (h.ne e (by intro z; simp)) e
end L2
set_option Elab.async false
set_option linter.all false
set_option maxRecDepth 100000
set_option maxHeartbeats 4000000
namespace L2
open PySem PySem.Spec PyProof.Rows
theorem comp_map {K : PySem.W.Frag} {a l : Addr} {xs : List V} {te : TE} {H0 : Hp} {rest : St} {Q : St → Hp → Prop} (f : V → V) (ha : H0 a = some (.tup xs)) (hl : H0 l = none) (hz : xs.length ≤ 1000)
    (turn : ∀ x H' Q', x ∈ xs → Same H0 H' → (∀ H2, Same H' H2 → Q' (f x) H2) → te (some x :: rest) H' Q') (hQ : ∀ σ H', Same H0 H' → H' l = some (.lst (xs.map f)) → Q σ H') :
    tForJ (Itt K a) (gName 0) (tBodyC tAll (tEmit l te)) (eC Q) (none :: rest) (upd H0 l (.lst [])) := by
  have s0 : Same H0 (upd H0 l (.lst [])) := same_upd hl
  refine for_tup (K := K) (a := a) (xs := xs) (fun i σ H' => (∃ o, σ = o :: rest) ∧ Same H0 H' ∧ H' l = some (.lst ((xs.take i).map f))) ⟨⟨_, rfl⟩, s0, by rw [upd_same]; rfl⟩ (fun i σ H' _ h => SqT.of (h.2.1 _ _ ha)) ?_ ?_
  · rintro i x σ H' hx ⟨⟨o, rfl⟩, hs, hl'⟩
    show tEmit l te (some x :: rest) H' _
    refine turn x H' _ (List.mem_of_getElem? hx) hs fun H2 h2 => ?_
    refine ⟨_, h2 _ _ hl', ?_, ⟨_, rfl⟩, fun b u e => ?_, ?_⟩
    · rw [List.length_map, List.length_take]
      exact small1000 (by (first | lia | omega))
    · rw [upd_ne (ne_of_none e hl)]; exact h2 _ _ (hs _ _ e)
    · rw [upd_same, List.take_succ, hx, List.map_append]; rfl
  · rintro σ H' ⟨_, hs, hl'⟩
    rw [List.take_of_length_le (Nat.le_refl _)] at hl'
    exact hQ σ H' hs hl'
theorem body_all {tb : TC} {D : Ends} {σ : St} {H : Hp} (h : tb σ H D.nx) : tBodyC tAll tb D σ H := by
  show (if true = true then tb σ H D.nx else D.nx σ H)
  exact iteT h
theorem body_name {i : Nat} {v : V} {tb : TC} {D : Ends} {σ : St} {H : Hp} (h : tb (σ.set i (some v)) H D.nx) : gName i v σ H (fun σ2 H2 => tBodyC tAll tb D σ2 H2) := body_all h
theorem iteB {b : Bool} {A B : Prop} (h1 : b = true → A) (h2 : b = false → B) : if b = true then A else B := by
  cases b with
  | true => exact iteT (h1 rfl)
  | false => exact iteF (h2 rfl)
theorem ite2d {c : Prop} [Decidable c] {A B : Prop} (h1 : c → A) (h2 : ¬ c → B) : if decide c = true then A else B := by
  by_cases h : c
  · rw [decide_eq_true h]; exact iteT (h1 h)
  · rw [decide_eq_false h]; exact iteF (h2 h)
end L2
set_option Elab.async false
set_option linter.all false
set_option maxRecDepth 100000
set_option maxHeartbeats 4000000
namespace L2
open PySem PySem.Spec PyProof.Rows
noncomputable def PlAt (H : Hp) (ps : List Addr) (cs : List (Int × Int)) : Prop := Paired (fun p c => H p = some (.tup [.int c.1, .int c.2])) ps cs
theorem PlAt.snoc {H : Hp} {ps : List Addr} {cs : List (Int × Int)} {p : Addr} {c : Int × Int} (h : PlAt H ps cs) (e : H p = some (.tup [.int c.1, .int c.2])) : PlAt H (ps ++ [p]) (cs ++ [c]) := Paired.snoc h e
end L2
set_option Elab.async false
set_option linter.all false
set_option maxRecDepth 100000
set_option maxHeartbeats 4000000
namespace L2
open PySem PySem.Spec PyProof.Rows
theorem Stp.updL {p l : Addr} {H H1 : Hp} {ys : List V} (s : Stp p H H1) (hl : H l = none) (hp : PenAt H p) : Stp p H (upd H1 l (.lst ys)) := by
  obtain ⟨x, f, e⟩ := hp
  have hne : p ≠ l := ne_of_none e hl
  obtain ⟨x', f', e'⟩ := s.pen
  exact ⟨⟨x', f', by rw [upd_ne hne]; exact e'⟩, fun b o hb h => by rw [upd_ne (ne_of_none h hl)]; exact s.keep b o hb h⟩
end L2
set_option Elab.async false
set_option linter.all false
set_option maxRecDepth 100000
set_option maxHeartbeats 4000000
namespace L2
open PySem PySem.Spec PyProof.Rows
theorem ObjOk.isThere {P : Program} {w : World} {H : Hp} {h : Heap} {a : Addr} {o : HO} (x : ObjOk P w H h a o) : ∃ u, h.get? a = some u := by
  cases o with
  | lst xs => obtain ⟨_, _, _, _, e⟩ := x; exact ⟨_, e⟩
  | tup xs => obtain ⟨_, _, _, u, e, _⟩ := x; exact ⟨u, e⟩
  | dK kvs => obtain ⟨_, _, _, _, o, _, _, e, _⟩ := x; exact ⟨_, e⟩
  | dT kvs => obtain ⟨_, _, _, _, o, _, _, e, _⟩ := x; exact ⟨_, e⟩
  | set S n => obtain ⟨o, _, _, _, e, _⟩ := x; exact ⟨_, e⟩
  | ins C dx fs => obtain ⟨_, _, _, e, _⟩ := x; exact ⟨_, e⟩
  | own y => exact x
  | xd fs => obtain ⟨_, ⟨_, _, _, e, _⟩, _⟩ := x; exact ⟨_, e⟩
  | rng lo hi => obtain ⟨_, _, _, e⟩ := x; exact ⟨_, e⟩
  | frz ob u => obtain ⟨e, _⟩ := x; exact ⟨_, e⟩
  | tbl ps => exact ⟨_, (show h.get? a = some _ from x)⟩
  | met f y => exact ⟨_, (show h.get? a = some _ from x)⟩
  | ext φ => obtain ⟨_, e, _⟩ := x; exact e
theorem HOk.tracked {P : Program} {w : World} {H : Hp} {h h' : Heap} (ok : HOk P w H h) (k : ∀ b u o, H b = some u → h.get? b = some o → h'.get? b = some o) : HOk P w H h' := fun a o e =>
  (ok a o e).stay (fun b u hb q => by
    rcases hb with z | z
    · subst z; exact k _ _ _ e q
    · exact k _ _ _ z q) (fun _ q => q) fun _ _ q => q
structure Fly (P : Program) (w : World) (outer : List Env) (H : Hp) (s : Shared) (e : Addr) (cls : Value) (H' : Hp) (s' : Shared) : Prop where
  os : s'.os = s.os
  bare : AllBare s'.gens
  un : Un (frs outer) [] H H' s.heap s'.heap
  hok : HOk P w H' s'.heap
  fly : ∃ B a0, Heap.FlyingW B outer e cls a0 s'.heap ∧ (∀ b o, s.heap.get? b = some o → H b = none → b ∉ frs outer → B.get? b = some o) ∧ (∀ b o, s.heap.get? b = some o → b ∉ frs outer → ∃ o', B.get? b = some o') ∧ ∀ b u, H' b = some u → ∃ o, B.get? b = some o
theorem frs_cons {env : Env} {l : List Env} {b : Addr} (h : b ∈ frs l) : b ∈ frs (env :: l) := by
  obtain ⟨e, he, hb⟩ := List.mem_filterMap.mp h
  exact List.mem_filterMap.mpr ⟨e, List.mem_cons_of_mem _ he, hb⟩
section
variable {X : Cx} {pins : List (Addr × Obj)} {σ : St} {H H' : Hp} {s s' : Shared} {cls : Value} {e : Addr} {Q : Unit → Shared → Prop} {E' : Value → Shared → Prop}
theorem Inv.notOwn (I : Inv X pins σ H s) {b : Addr} {o : Obj} (q : X.s₀.heap.get? b = some o) (hb : b ∉ X.fs) : b ∉ frs X.stack := fun hm => by
  rcases List.mem_cons.mp (I.stkSub b hm) with z | z
  · exact absurd (Nat.lt_of_lt_of_le (Heap.lt_size q) I.ok.above) (by rw [z]; exact Nat.lt_irrefl _)
  · exact hb z
end
noncomputable abbrev bmV : List Value := [.type "ValueError", .type "Exception", .type "BaseException", .type "object"]
section
variable {X : Cx} {x : Str} {z : Str} {j : Nat} {np p1 cpos pos : Pos} {C : Addr} {E : XK}
end
noncomputable def Cx.within (X : Cx) (e : Addr) (oe : Obj) : Cx := { X with A := X.A.mark (some (.ref e)), calm := false, pn := (e, oe) :: X.pn, xe := fun _ _ => False }
end L2
set_option Elab.async false
set_option linter.all false
set_option maxRecDepth 100000
set_option maxHeartbeats 4000000
namespace L2
open PySem PySem.Spec PyProof.Rows
section
variable {X : Cx} {pins : List (Addr × Obj)} {σ : St} {H H' : Hp} {s s' : Shared} {cls a0 : Value} {e : Addr} {oe : Obj} {B h5 : Heap}
theorem Inv.landed (I : Inv X pins σ H s) (F : Fly X.prog X.w X.stack H s e cls H' s') (hfl : Heap.FlyingW B X.stack e cls a0 s'.heap)
    (g1 : ∀ b o, s.heap.get? b = some o → H b = none → b ∉ frs X.stack → B.get? b = some o) (g2 : ∀ b o, s.heap.get? b = some o → b ∉ frs X.stack → ∃ o', B.get? b = some o') (g3 : ∀ b u, H' b = some u → ∃ o, B.get? b = some o)
    (hB : B.StaysIn h5) (hu : s'.heap.UpToSlots h5) : Inv X pins σ H' { s' with heap := h5 } := by
  have kS : ∀ b o, s'.heap.get? b = some o → b ∈ frs X.stack → ∃ sl, h5.get? b = some { o with slots := sl } := fun b o q hb => hu b o q (by
    obtain ⟨_, o', ho', hd⟩ := hfl.2.2.1.mem hb
    rw [q] at ho'; cases ho'; exact hd)
  refine I.call' (s' := { s' with heap := h5 }) (ch := []) F.os ⟨fun b o q n hb _ => hB b o (g1 b o q n hb), fun b o q n hb _ => ?_, fun b o q n _ => F.un.free b o q n (by simp), fun b o q _ => ?_, F.un.tups, F.un.frzs, F.un.tbls⟩ (F.hok.tracked fun b u o q z => ?_) F.bare fun b z => nomatch z
  · obtain ⟨sl, e2⟩ := F.un.slot b o q n hb (by simp)
    obtain ⟨sl', e3⟩ := kS b _ e2 hb
    exact ⟨sl', e3⟩
  · by_cases hm : b ∈ frs X.stack
    · obtain ⟨o2, e2⟩ := F.un.there b o q (by simp)
      obtain ⟨sl, e3⟩ := kS b o2 e2 hm; exact ⟨_, e3⟩
    · obtain ⟨o2, e2⟩ := g2 b o q hm
      exact ⟨o2, hB b o2 e2⟩
  · obtain ⟨o', e1⟩ := g3 b u q
    have := hfl.1 b o' e1
    rw [z] at this; cases this
    exact hB b _ e1
theorem Inv.within (I : Inv X pins σ H s) (he : s.heap.get? e = some oe) (hn : H e = none) (hL : e ≠ X.env.locals) (hf : e ∉ X.fs) (hd : ∀ v, oe.data ≠ .cell v) : Inv (X.within e oe) pins σ H s :=
  ⟨⟨I.ok.mod, I.ok.kind, I.ok.glob, I.ok.blt, I.ok.above, I.ok.inj, I.ok.has, I.ok.cab, fun z => (Bool.false_ne_true z).elim, I.ok.frames, I.ok.stk, I.ok.exf, I.ok.bs, I.ok.bsz, I.ok.noex, I.ok.exfs, I.ok.funs, I.ok.frf⟩, I.os, I.bare, I.base, I.loc, I.cell, I.free, I.freeC,
    fun p hp => by
      rcases List.mem_append.mp hp with z | z
      · rcases List.mem_cons.mp z with y | y
        · subst y; exact ⟨he, hn, hL, hf, hd⟩
        · exact I.pin p (List.mem_append_left _ y)
      · exact I.pin p (List.mem_append_right _ z), I.hok, I.len⟩
theorem Inv.suiteOver (hc : X.A.handled = none) (I : Inv (X.within e oe) [] σ H s) (hpn : X.pn = []) {h' : Heap} {m : Str → Option Value} {t : Nat} (hN : h'.Ns X.env.locals m) (hs : Heap.SameBut X.env.locals s.heap h') : Inv X [] (List.replicate X.N.length none) H { s with heap := h', toks := t } := by
  have below : ∀ b o, X.s₀.heap.get? b = some o → b ≠ X.env.locals := fun b o q => Nat.ne_of_lt (Nat.lt_of_lt_of_le (Heap.lt_size q) I.ok.above)
  refine ⟨⟨I.ok.mod, I.ok.kind, I.ok.glob, I.ok.blt, I.ok.above, I.ok.inj, I.ok.has, I.ok.cab, fun _ => hc, I.ok.frames, I.ok.stk, I.ok.exf, I.ok.bs, I.ok.bsz, I.ok.noex, I.ok.exfs, I.ok.funs, I.ok.frf⟩, I.os, I.bare,
    ⟨fun b o q n hb hx => (hs.2 b (below b o q)).trans (I.base.keep b o q n hb hx), fun b o q n hb hx => let ⟨sl, e1⟩ := I.base.slot b o q n hb hx; ⟨sl, (hs.2 b (below b o q)).trans e1⟩, I.base.free, fun b o q hx => let ⟨o', e1⟩ := I.base.there b o q hx; ⟨o', (hs.2 b (below b o q)).trans e1⟩, I.base.tups, I.base.frzs, I.base.tbls⟩,
    ⟨m, hN, fun i x v _ e2 _ => ?_⟩, fun y c q => ?_, I.free, I.freeC, fun p hp => ?_, I.hok.tracked fun b u o q z => ?_, by simp⟩
  · rw [List.getElem?_replicate] at e2
    split at e2 <;> cases e2
  · obtain ⟨w', z⟩ := I.cell y c q
    exact ⟨w', z.sameBut hs (I.cne y c q)⟩
  · rw [hpn] at hp; cases hp
  · refine (hs.2 b fun y => ?_).trans z
    have := I.free
    rw [show (X.within e oe).env.locals = X.env.locals from rfl, ← y, q] at this; cases this
end
section
variable {X : Cx} {E : XK} {R : VK} {y n : Str} {i : Nat} {Cy : Addr} {b₀ : Stmt} {suite : List Stmt} {np hp : Pos} {tS : Addr → Obj → TS}
end
section
variable {P : Program} {w : World} {K : PySem.W.Frag} {mg : Str → Option Value} {base : Heap}
end
end L2
set_option Elab.async false
set_option linter.all false
set_option maxRecDepth 100000
set_option maxHeartbeats 4000000
namespace L2
open PySem PySem.Spec PyProof.Rows
end L2
namespace L2
open PySem PySem.W PySem.Calls PyProof.Rows Builtin Builtin.ObjectAttr Builtin.Getset_descriptor
section
variable {prog : Program} {w : World} {A : Around} {E : Value → Shared → Prop} {K : PySem.W.Frag} {x D : Addr}
end
end L2
namespace L2
open PySem PySem.Spec PyProof.Rows
theorem PI.or {X : Cx} {tg iter : Expr} {w1 w2 : TI} (h1 : PI X tg iter w1) (h2 : PI X tg iter w2) : PI X tg iter (fun σ H R => w1 σ H R ∨ w2 σ H R) := by
  intro pins s σ H R I h
  rcases h with h | h
  · exact h1 pins s σ H R I h
  · exact h2 pins s σ H R I h
end L2
set_option Elab.async false
set_option linter.all false
set_option maxRecDepth 100000
set_option maxHeartbeats 4000000
namespace PySem
open Sem (wp)
section
variable {prog : Program} {w : World} {A : Around} {E : Value → Shared → Prop} {s : Shared}
structure ZipFar (z TI TO i1 i2 : Addr) (f1 f2 : List Addr) : Prop where
  z1 : z ∉ f1
  z2 : z ∉ f2
  o1 : TO ∉ f1
  o2 : TO ∉ f2
  c1 : i1 ∉ f2
  c2 : i2 ∉ f1
  Iz : TI ≠ z
  Oz : TO ≠ z
  iz : i1 ≠ z
  jz : i2 ≠ z
  IO : TI ≠ TO
  I1 : TI ≠ i1
  I2 : TI ≠ i2
  O1 : TO ≠ i1
  O2 : TO ≠ i2
  ij : i1 ≠ i2
theorem zipFar_new (n a b : Nat) (h1 : a < n) (h2 : b < n) : ZipFar (n + 4) (n + 2) (n + 3) n (n + 1) [n, a] [n + 1, b] := by
  constructor <;> intro h <;> first
    | (have h' : @Eq Nat _ _ := h; (first | lia | omega))
    | (rcases List.mem_cons.mp h with y | y
       · have y' : @Eq Nat _ _ := y; (first | lia | omega)
       · have y' : @Eq Nat _ _ := List.mem_singleton.mp y; (first | lia | omega))
theorem zipD_item {z TI TO i1 i2 : Addr} {f1 f2 : List Addr} {n1 n2 k : Nat} {P1 P2 : Nat → Value → Prop} {S1 S2 : Nat → Heap → Prop} {a b : Value} {Q : Value → Shared → Prop} (D1 : Draws prog w A i1 f1 n1 P1 S1) (D2 : Draws prog w A i2 f2 n2 P2 S2) (D : ZipFar z TI TO i1 i2 f1 f2)
    (hz : IsZip s.heap z TI TO .none) (hTI : IsPair s.heap TI (.ref i1) (.ref i2)) (hTO : IsPair s.heap TO a b) (t1 : S1 k s.heap) (t2 : S2 k s.heap) (hk1 : k < n1) (hk2 : k < n2)
    (hQ : ∀ x y h' tk, P1 k x → P2 k y → IsZip h' z TI TO (rawInt s.heap.objs.size) → IsPair h' TO x y → S1 (k + 1) h' → S2 (k + 1) h' → IsPair h' s.heap.objs.size x y →
      (∀ c o, c ≠ z → c ≠ TO → c ≠ i1 → c ≠ i2 → s.heap.get? c = some o → h'.get? c = some o) → Q (.ref s.heap.objs.size) { s with heap := h', toks := tk }) :
    wpAny (model prog w) A (Builtin.«zip.__next__» ⟨[.ref z], []⟩) (fun fin s' => ∃ v, fin = .done (.ret v) ∧ Q v s') E s := by
  show wpAny _ _ (field (.ref z) 2 >>= _) _ _ _; refine wpAny_bind (wpAny_field hz rfl (x := .bool false) rfl ?_); show wpAny _ _ (field (.ref z) 3 >>= _) _ _ _
  refine wpAny_bind (wpAny_field hz rfl (x := .ref TI) rfl (wpAny_bind (wpAny_seqItems hTI rfl ?_)))
  show wpAny _ _ (Builtin.SmallTypes.ownedTupleIsFree (.ref z) >>= _) _ _ _; refine wpAny_bind ?_; unfold Builtin.SmallTypes.ownedTupleIsFree
  refine wpAny_bind (wpAny_field hz rfl (x := .none) rfl (wpAny_pure ?_)); simp only [if_true]
  refine wpAny_bind (wpAny_rule (wpAny_bind (wpAny_field hz rfl (x := .ref TO) rfl (wpAny_bind (wpAny_setField_rec hz (by simp) fun h₁ hz₁ hs₁ => ?_)))))
  replace hz₁ : IsZip h₁ z TI TO .ellipsis := hz₁
  refine wpAny_bind ?_; simp only [List.zipIdx_cons, List.zipIdx_nil, List.forIn_cons, List.forIn_nil]
  refine wpAny_bind (wpAny_bind (wpAny_onRaise ?_)); show wpAny _ _ (Builtin.SmallTypes.nextOf (.ref i1) >>= _) _ _ _
  have u1 : S1 k h₁ := D1.frame k _ _ t1 fun c hc o e => hs₁.extBut _ _ (fun q => D.z1 (q ▸ hc)) e
  refine wpAny_bind (D1.item k _ _ _ hk1 u1 fun x h₂ tk₂ hx v1 hs₂ => wpAny_pure ?_)
  have hTO₂ : IsPair h₂ TO a b := hs₂.extBut _ _ D.O1 (hs₁.extBut _ _ D.Oz hTO)
  refine wpAny_bind (wpAny_seqItems hTO₂ rfl (wpAny_bind (wpAny_updateSeq_pair hTO₂ fun h₃ hTO₃ hs₃ => ?_)))
  replace hTO₃ : IsPair h₃ TO x b := hTO₃
  refine wpAny_bind (wpAny_letGo (wpAny_pure ?_)); refine wpAny_bind (wpAny_bind (wpAny_onRaise ?_)); show wpAny _ _ (Builtin.SmallTypes.nextOf (.ref i2) >>= _) _ _ _
  have u2 : S2 k h₃ := D2.frame k _ _ t2 fun c hc o e => hs₃.extBut _ _ (fun q => D.o2 (q ▸ hc)) (hs₂.extBut _ _ (fun q => D.c1 (q ▸ hc)) (hs₁.extBut _ _ (fun q => D.z2 (q ▸ hc)) e))
  refine wpAny_bind (D2.item k _ _ _ hk2 u2 fun y h₄ tk₄ hy v2 hs₄ => wpAny_pure ?_)
  have hTO₄ : IsPair h₄ TO x b := hs₄.extBut _ _ D.O2 hTO₃
  refine wpAny_bind (wpAny_seqItems hTO₄ rfl (wpAny_bind (wpAny_updateSeq_pair hTO₄ fun h₅ hTO₅ hs₅ => ?_)))
  replace hTO₅ : IsPair h₅ TO x y := hTO₅
  refine wpAny_bind (wpAny_letGo (wpAny_pure (wpAny_pure ?_))); refine wpAny_bind (wpAny_seqItems hTO₅ rfl (wpAny_bind (wpAny_newTuple ?_)))
  have hsz : h₅.objs.size = s.heap.objs.size := by rw [hs₅.1, hs₄.1, hs₃.1, hs₂.1, hs₁.1]
  have hz₅ : IsZip h₅ z TI TO .ellipsis := hs₅.extBut _ _ D.Oz.symm (hs₄.extBut _ _ D.jz.symm (hs₃.extBut _ _ D.Oz.symm (hs₂.extBut _ _ D.iz.symm hz₁)))
  have hk₅ : ∀ c o, c ≠ z → c ≠ TO → c ≠ i1 → c ≠ i2 → s.heap.get? c = some o → h₅.get? c = some o := fun c o e1 e2 e3 e4 e => hs₅.extBut _ _ e2 (hs₄.extBut _ _ e4 (hs₃.extBut _ _ e2 (hs₂.extBut _ _ e3 (hs₁.extBut _ _ e1 e))))
  have w1 : S1 (k + 1) h₅ := D1.frame _ _ _ v1 fun c hc o e => hs₅.extBut _ _ (fun q => D.o1 (q ▸ hc)) (hs₄.extBut _ _ (fun q => D.c2 (q ▸ hc)) (hs₃.extBut _ _ (fun q => D.o1 (q ▸ hc)) e))
  have w2 : S2 (k + 1) h₅ := D2.frame _ _ _ v2 fun c hc o e => hs₅.extBut _ _ (fun q => D.o2 (q ▸ hc)) e
  have hzlt : z < h₅.objs.size := Heap.lt_size hz₅
  show wpAny _ _ (Builtin.SmallTypes.ownedTupleHandOut (.ref z) (.ref h₅.objs.size) >>= _) _ _ _; refine wpAny_bind ?_; unfold Builtin.SmallTypes.ownedTupleHandOut
  have hz₆ : IsZip (h₅.push { cls := .type "tuple", data := .seq #[x, y] }) z TI TO .ellipsis := Heap.get?_push_of_some _ hz₅
  refine wpAny_bind (wpAny_setField_rec hz₆ (by simp) fun h₇ hz₇ hs₇ => ?_); replace hz₇ : IsZip h₇ z TI TO (rawInt h₅.objs.size) := hz₇
  refine wpAny_setField_rec hz₇ (by simp) fun h₈ hz₈ hs₈ => ?_; replace hz₈ : IsZip h₈ z TI TO (rawInt h₅.objs.size) := hz₈
  have up : ∀ c o, c ≠ z → h₅.get? c = some o → h₈.get? c = some o := fun c o e1 e => hs₈.extBut _ _ e1 (hs₇.extBut _ _ e1 (Heap.get?_push_of_some _ e))
  have hT₈ : IsPair h₈ h₅.objs.size x y := hs₈.extBut _ _ (Nat.ne_of_gt hzlt) (hs₇.extBut _ _ (Nat.ne_of_gt hzlt) (Heap.get?_push_size _ rfl))
  rw [hsz] at hz₈ hT₈
  refine wpAny_pure ⟨_, rfl, ?_⟩; show Q (.ref h₅.objs.size) _; rw [hsz]
  exact hQ x y h₈ _ hx hy hz₈ (up _ _ D.Oz hTO₅) (D1.frame _ _ _ w1 fun c hc o e => up c o (fun q => D.z1 (q ▸ hc)) e) (D2.frame _ _ _ w2 fun c hc o e => up c o (fun q => D.z2 (q ▸ hc)) e) hT₈ fun c o e1 e2 e3 e4 e => up c o e1 (hk₅ c o e1 e2 e3 e4 e)
theorem zipD_end {z TI TO i1 i2 : Addr} {f1 f2 : List Addr} {n1 : Nat} {P1 : Nat → Value → Prop} {S1 : Nat → Heap → Prop} {Q : Fin → Shared → Prop} (D1 : Draws prog w A i1 f1 n1 P1 S1) (D : ZipFar z TI TO i1 i2 f1 f2)
    (hz : IsZip s.heap z TI TO .none) (hTI : IsPair s.heap TI (.ref i1) (.ref i2)) (t1 : S1 n1 s.heap)
    (hE : ∀ h' e, (∀ c o, c ≠ z → c ≠ i1 → s.heap.get? c = some o → h'.get? c = some o) → (∃ o, h'.get? e = some o ∧ o.cls = .type "StopIteration") → E (.ref e) { s with heap := h' }) :
    wpAny (model prog w) A (Builtin.«zip.__next__» ⟨[.ref z], []⟩) Q E s := by
  show wpAny _ _ (field (.ref z) 2 >>= _) _ _ _; refine wpAny_bind (wpAny_field hz rfl (x := .bool false) rfl ?_); show wpAny _ _ (field (.ref z) 3 >>= _) _ _ _
  refine wpAny_bind (wpAny_field hz rfl (x := .ref TI) rfl (wpAny_bind (wpAny_seqItems hTI rfl ?_)))
  show wpAny _ _ (Builtin.SmallTypes.ownedTupleIsFree (.ref z) >>= _) _ _ _; refine wpAny_bind ?_; unfold Builtin.SmallTypes.ownedTupleIsFree
  refine wpAny_bind (wpAny_field hz rfl (x := .none) rfl (wpAny_pure ?_)); simp only [if_true]
  refine wpAny_bind (wpAny_rule (wpAny_bind (wpAny_field hz rfl (x := .ref TO) rfl (wpAny_bind (wpAny_setField_rec hz (by simp) fun h₁ hz₁ hs₁ => ?_)))))
  replace hz₁ : IsZip h₁ z TI TO .ellipsis := hz₁
  refine wpAny_bind ?_; simp only [List.zipIdx_cons, List.zipIdx_nil, List.forIn_cons, List.forIn_nil]
  refine wpAny_bind (wpAny_bind (wpAny_onRaise ?_)); show wpAny _ _ (Builtin.SmallTypes.nextOf (.ref i1) >>= _) _ _ _
  have u1 : S1 n1 h₁ := D1.frame n1 _ _ t1 fun c hc o e => hs₁.extBut _ _ (fun q => D.z1 (q ▸ hc)) e
  refine wpAny_bind (D1.done _ _ _ u1 fun h₂ e hs₂ he => ?_)
  obtain ⟨oe, hoe, hce⟩ := he
  have hz₂ : IsZip h₂ z TI TO .ellipsis := hs₂ _ _ D.iz.symm hz₁
  have hez : e ≠ z := fun x => by subst x; rw [hz₂] at hoe; cases hoe; simp at hce
  refine wpAny_setField_rec hz₂ (by simp) fun h₃ _ hs₃ => hE h₃ e (fun c o c1 c3 x => hs₃.extBut _ _ c1 (hs₂ _ _ c3 (hs₁.extBut _ _ c1 x))) ⟨oe, hs₃.extBut _ _ hez hoe, hce⟩
theorem nextZ_item {z TI TO i1 i2 : Addr} {f1 f2 : List Addr} {n1 n2 k : Nat} {P1 P2 : Nat → Value → Prop} {S1 S2 : Nat → Heap → Prop} {a b : Value} {Q : Option Value → Shared → Prop} (D1 : Draws prog w A.in1 i1 f1 n1 P1 S1) (D2 : Draws prog w A.in1 i2 f2 n2 P2 S2) (D : ZipFar z TI TO i1 i2 f1 f2)
    (hz : IsZip s.heap z TI TO .none) (hTI : IsPair s.heap TI (.ref i1) (.ref i2)) (hTO : IsPair s.heap TO a b) (t1 : S1 k s.heap) (t2 : S2 k s.heap) (hk1 : k < n1) (hk2 : k < n2)
    (hQ : ∀ x y h' tk, P1 k x → P2 k y → IsZip h' z TI TO (rawInt s.heap.objs.size) → IsPair h' TO x y → S1 (k + 1) h' → S2 (k + 1) h' → IsPair h' s.heap.objs.size x y →
      (∀ c o, c ≠ z → c ≠ TO → c ≠ i1 → c ≠ i2 → s.heap.get? c = some o → h'.get? c = some o) → Q (some (.ref s.heap.objs.size)) { s with heap := h', toks := tk }) :
    wpAny (model prog w) A (pyNext (.ref z)) Q E s := by
  have hT : s.TypeIs (.ref z) "zip" := ⟨_, hz, rfl⟩
  unfold pyNext
  exact wpAny_bind (wpAny_attempt (wpAny_callSpecial?_slot (name := Str.ofString "__next__") hT F.slot_zip_next (wpAny_call_entry F.slot_zip_next hT F.entry_zip_next
      (zipD_item D1 D2 D hz hTI hTO t1 t2 hk1 hk2 fun x y h' tk q1 q2 a1 a2 a3 a4 a5 a6 => wpAny_pure (hQ x y h' tk q1 q2 a1 a2 a3 a4 a5 a6)) (F.args_zip_next_1 _))))
theorem nextZ_end {z TI TO i1 i2 : Addr} {f1 f2 : List Addr} {n1 : Nat} {P1 : Nat → Value → Prop} {S1 : Nat → Heap → Prop} {Q : Option Value → Shared → Prop} (D1 : Draws prog w A.in1 i1 f1 n1 P1 S1) (D : ZipFar z TI TO i1 i2 f1 f2)
    (hz : IsZip s.heap z TI TO .none) (hTI : IsPair s.heap TI (.ref i1) (.ref i2)) (t1 : S1 n1 s.heap)
    (hQ : ∀ h', (∀ c o, c ≠ z → c ≠ i1 → s.heap.get? c = some o → h'.get? c = some o) → Q none { s with heap := h' }) : wpAny (model prog w) A (pyNext (.ref z)) Q E s := by
  have hT : s.TypeIs (.ref z) "zip" := ⟨_, hz, rfl⟩
  unfold pyNext
  refine wpAny_bind (wpAny_attempt (wpAny_callSpecial?_slot (name := Str.ofString "__next__") hT F.slot_zip_next (wpAny_call_entry F.slot_zip_next hT F.entry_zip_next (zipD_end D1 D hz hTI t1 fun h' e hk he => ?_) (F.args_zip_next_1 _))))
  obtain ⟨o, ho, hc⟩ := he
  exact wpAny_bind (wpAny_isInstance (T := "StopIteration") (b := true) ⟨o, ho, hc⟩ isSubtype_stop (wpAny_pure (hQ _ hk)))
end
section
variable {prog : Program} {w : World} {A : Around} {E : Value → Shared → Prop} {s : Shared}
end
end PySem
namespace L2
open PySem PySem.Spec PyProof.Rows
structure SeqK where
  Sq : PySem.W.Frag → Hp → Addr → List V → Prop
  isq : Heap → Addr → Array Value → Prop
  iit : Heap → Addr → Addr → Nat → Prop
structure SeqK.Ok (k : SeqK) : Prop where
  get : ∀ {X : Cx} {pins : List (Addr × Obj)} {σ : St} {H : Hp} {s : Shared} {a : Addr} {xs : List V}, Inv X pins σ H s → k.Sq X.K H a xs → ∃ its : List Value, Vals xs its ∧ k.isq s.heap a its.toArray
  inj : ∀ {X : Cx} {pins : List (Addr × Obj)} {σ : St} {H : Hp} {s : Shared} {a : Addr} {xs ys : List V}, Inv X pins σ H s → k.Sq X.K H a xs → k.Sq X.K H a ys → xs = ys
  lt : ∀ {h : Heap} {a : Addr} {its : Array Value}, k.isq h a its → a < h.objs.size
  dr : ∀ {prog : Program} {w : World} {A : Around}, A.handled = none → ∀ (it l : Addr), l ≠ it → ∀ items : Array Value, Draws prog w A it [it, l] items.size (fun i v => items[i]? = some v) (fun i h => k.iit h it l i ∧ k.isq h l items)
  obj : ∀ {h : Heap} {it l : Addr} {i : Nat}, k.iit h it l i → ∃ o, h.get? it = some o ∧ ∀ v, o.data ≠ .cell v
  «at» : ∀ {h h' : Heap} {it l : Addr} {i : Nat}, k.iit h it l i → (∀ o, h.get? it = some o → h'.get? it = some o) → k.iit h' it l i
  zip : ∀ {prog : Program} {w : World} {A : Around} {E : Value → Shared → Prop} {s : Shared} {l1 l2 : Addr} {xs ys : Array Value} {Q : Value → Shared → Prop}, k.isq s.heap l1 xs → k.isq s.heap l2 ys →
    (∀ h', IsZip h' (s.heap.objs.size + 4) (s.heap.objs.size + 2) (s.heap.objs.size + 3) .none → IsPair h' (s.heap.objs.size + 2) (.ref s.heap.objs.size) (.ref (s.heap.objs.size + 1)) → IsPair h' (s.heap.objs.size + 3) .none .none →
      k.iit h' s.heap.objs.size l1 0 → k.iit h' (s.heap.objs.size + 1) l2 0 → (∀ c o, s.heap.get? c = some o → h'.get? c = some o) → Q (.ref (s.heap.objs.size + 4)) { s with heap := h' }) → wpAny (model prog w) A (call (.type "zip") [.ref l1, .ref l2]) Q E s
noncomputable def kL : SeqK := ⟨SqL, Heap.IsList, Heap.IsListIter⟩
noncomputable def kT : SeqK := ⟨SqT, Heap.IsTuple, Heap.IsTupleIter⟩
theorem kL_ok : kL.Ok where
  get := fun I h => let ⟨its, r, p, _⟩ := I.list h; ⟨its, r, p.isList⟩
  inj := fun I h1 h2 => I.list_inj h1 h2
  lt := fun p => let ⟨o, ho, _⟩ := p; Heap.lt_size ho
  dr := fun hh it l hne items => Draws.list hh it l hne items
  obj := fun ⟨o, e, c, d⟩ => ⟨o, e, fun v z => by rw [d] at z; cases z⟩
  «at» := fun x k => Heap.IsListIter.at x k
  zip := fun p1 p2 h => call_zip_2 p1 p2 fun h' a1 a2 a3 a4 a5 _ a7 => h h' a1 a2 a3 a4 a5 a7
noncomputable def Itz (S1 S2 : Hp → List V → Prop) : It :=
  ⟨fun i H => ∃ xs ys x y, S1 H xs ∧ S2 H ys ∧ xs[i]? = some x ∧ ys[i]? = some y, fun i H v H' => ∃ p x y, v = .ref p ∧ H p = none ∧ H' = upd H p (.tup [x, y]) ∧ (∀ xs, S1 H xs → xs[i]? = some x) ∧ ∀ ys, S2 H ys → ys[i]? = some y, fun i H => ∃ xs, S1 H xs ∧ xs.length = i⟩
theorem turn_zip {P : Program} {w : World} {K : PySem.W.Frag} {es : List Expr} {x1} {pos : Pos} {k : SeqK} (ok : k.Ok) (z TI TO i1 i2 a b : Addr) (D : ZipFar z TI TO i1 i2 [i1, a] [i2, b]) (ha : a ≠ i1) (hb : b ≠ i2) :
    Turn P w K (.Tuple es x1 pos) (Itz (fun H xs => k.Sq K H a xs) fun H ys => k.Sq K H b ys) [z, TI, TO, i1, i2] z (fun i h => IsZip h z TI TO .none ∧ IsPair h TI (.ref i1) (.ref i2) ∧ (∃ u v, IsPair h TO u v) ∧ k.iit h i1 a i ∧ k.iit h i2 b i) where
  mem := by simp
  obj := fun i h st c hc => by
    obtain ⟨hz, hTI, ⟨u, v, hTO⟩, h1, h2⟩ := st
    simp only [List.mem_cons, List.not_mem_nil, or_false] at hc
    rcases hc with rfl | rfl | rfl | rfl | rfl
    · exact ⟨_, hz, fun v z => by cases z⟩
    · exact ⟨_, hTI, fun v z => by cases z⟩
    · exact ⟨_, hTO, fun v z => by cases z⟩
    · exact ok.obj h1
    · exact ok.obj h2
  keep := fun i h h' st kp => by
    obtain ⟨hz, hTI, ⟨u, v, hTO⟩, h1, h2⟩ := st
    exact ⟨kp z (by simp) _ hz, kp TI (by simp) _ hTI, ⟨u, v, kp TO (by simp) _ hTO⟩, ok.at h1 fun o q => kp i1 (by simp) o q, ok.at h2 fun o q => kp i2 (by simp) o q⟩
  item := by
    intro X hP hw hK hc i pins s σ H E I hf st hg
    subst hP hw hK
    obtain ⟨hz, hTI, ⟨u, v, hTO⟩, h1, h2⟩ := st
    obtain ⟨xs, ys, x, y, q1, q2, e1, e2⟩ := hg
    obtain ⟨its, rv, p1⟩ := ok.get I q1
    obtain ⟨jts, rw', p2⟩ := ok.get I q2
    obtain ⟨ux, hux, rx⟩ := rv.get e1
    obtain ⟨uy, huy, ry⟩ := rw'.get e2
    have l1 : i < its.toArray.size := by rw [List.size_toArray]; exact (List.getElem?_eq_some_iff.mp hux).1
    have l2 : i < jts.toArray.size := by rw [List.size_toArray]; exact (List.getElem?_eq_some_iff.mp huy).1
    have hh : X.A.in1.handled = none := by simp [I.ok.hd hc]
    refine nextZ_item (ok.dr hh i1 a ha its.toArray) (ok.dr hh i2 b hb jts.toArray) D hz hTI hTO ⟨h1, p1⟩ ⟨h2, p2⟩ l1 l2 fun vx vy h' tk hvx hvy g1 g2 g3 g4 g5 g6 => ?_
    have ex : vx = ux := by
      have e : its[i]? = some vx := by simpa using hvx
      rw [hux] at e; exact (Option.some.inj e).symm
    have ey : vy = uy := by
      have e : jts[i]? = some vy := by simpa using hvy
      rw [huy] at e; exact (Option.some.inj e).symm
    subst ex ey
    refine ⟨_, rfl, wpAny_letOwnedTupleGo_zip (s := { s with heap := h', toks := tk }) g1 fun h2' hz2 hs2 => ?_⟩
    have hn : H s.heap.objs.size = none := I.hok.fresh (Nat.le_refl _)
    have lz : ∀ {c o}, s.heap.get? c = some o → s.heap.objs.size ≠ c := fun e => Nat.ne_of_gt (Heap.lt_size e)
    have li1 : s.heap.objs.size ≠ i1 := let ⟨o, e, _⟩ := ok.obj h1; lz e
    have li2 : s.heap.objs.size ≠ i2 := let ⟨o, e, _⟩ := ok.obj h2; lz e
    have kp : ∀ c o, c ∉ [z, TI, TO, i1, i2] → s.heap.get? c = some o → h2'.get? c = some o := fun c o hc' q => by
      have c1 : c ≠ z := fun e => hc' (by simp [e])
      exact (hs2.2 c c1).trans (g6 c o c1 (fun e => hc' (by simp [e])) (fun e => hc' (by simp [e])) (fun e => hc' (by simp [e])) q)
    have hT2 : IsPair h2' s.heap.objs.size vx vy := (hs2.2 _ (lz hz)).trans g5
    have I2 : Inv X pins σ (upd H s.heap.objs.size (.tup [x, y])) { s with heap := h2', toks := tk } := I.turnLaid (fp := [z, TI, TO, i1, i2]) kp hf (Nat.le_refl _) ⟨by show 2 ≤ sizeLine; rw [sizeLine_eq]; decide, [vx, vy], .cons rx (.cons ry .nil), ⟨_, hT2, rfl, _, rfl⟩⟩
    have hTI2 : IsPair h2' TI (.ref i1) (.ref i2) := (hs2.2 _ D.Iz).trans (g6 _ _ D.Iz D.IO D.I1 D.I2 hTI)
    refine ⟨.ref s.heap.objs.size, _, I2, rfl, ⟨s.heap.objs.size, x, y, rfl, hn, rfl, fun zs hz' => by rw [ok.inj I hz' q1]; exact e1, fun zs hz' => by rw [ok.inj I hz' q2]; exact e2⟩, ⟨hz2, hTI2, ⟨_, _, (hs2.2 _ D.Oz).trans g2⟩, ok.at g3.1 fun o q => (hs2.2 _ D.iz).trans q, ok.at g4.1 fun o q => (hs2.2 _ D.jz).trans q⟩, fun c hc' => ?_⟩
    have hcz : c ≠ s.heap.objs.size := by
      simp only [List.mem_cons, List.not_mem_nil, or_false] at hc'
      rcases hc' with rfl | rfl | rfl | rfl | rfl
      · exact (lz hz).symm
      · exact (lz hTI).symm
      · exact (lz hTO).symm
      · exact li1.symm
      · exact li2.symm
    rw [upd_ne hcz]; exact (hf c hc').1
  done := by
    intro X hP hw hK hc i pins s σ H E I hf st hg
    subst hP hw hK
    obtain ⟨hz, hTI, ⟨u, v, hTO⟩, h1, h2⟩ := st
    obtain ⟨xs, q1, hx⟩ := hg
    obtain ⟨its, rv, p1⟩ := ok.get I q1
    have hl := rv.length
    have hi : its.toArray.size = i := by rw [List.size_toArray, ← hl, hx]
    have hh : X.A.in1.handled = none := by simp [I.ok.hd hc]
    refine nextZ_end (ok.dr hh i1 a ha its.toArray) D hz hTI (by rw [hi]; exact ⟨h1, p1⟩) fun h' hk => ⟨rfl, ?_⟩
    exact I.turnedL (fp := [z, TI, TO, i1, i2]) (t' := s.toks) (fun c o hc' q => hk c o (fun e => hc' (by simp [e])) (fun e => hc' (by simp [e])) q) hf
  self := fun _ _ _ _ _ st h => wpAny_pyIter_zip st.1 h
section
variable {X : Cx}
end
end L2
set_option Elab.async false
set_option linter.all false
set_option maxRecDepth 100000
set_option maxHeartbeats 4000000
namespace L2
open PySem PySem.Spec PyProof.Rows
section
variable {X : Cx}
theorem preSum_take (ns : List Int) : ∀ j : Nat, preSum (fun i => (ns[i]?).getD 0) j = (ns.take j).sum
  | 0 => by simp [preSum]
  | j + 1 => by
    have ih := preSum_take ns j
    rw [List.take_succ, List.sum_append]
    show preSum (fun i => (ns[i]?).getD 0) j + (ns[j]?).getD 0 = _
    rw [ih]
    cases ns[j]? <;> simp
theorem sum_small {B : Int} (hB : 0 ≤ B) : ∀ {ns : List Int}, (∀ n ∈ ns, -B ≤ n ∧ n ≤ B) → -(B * ns.length) ≤ ns.sum ∧ ns.sum ≤ B * ns.length
  | [], _ => by simp
  | n :: ns, h => by
    have ih := sum_small hB (ns := ns) fun m hm => h m (List.mem_cons_of_mem _ hm)
    have h0 := h n List.mem_cons_self
    rw [List.sum_cons, List.length_cons]
    have e : B * ((ns.length + 1 : Nat) : Int) = B * (ns.length : Int) + B := by
      rw [Int.natCast_add, Int.mul_add]; simp
    rw [e]
    constructor <;> (first | lia | omega)
end
end L2
set_option Elab.async false
set_option linter.all false
set_option maxRecDepth 100000
set_option maxHeartbeats 4000000
namespace L2
open PySem PySem.Spec PyProof.Rows
section
variable {X : Cx}
theorem call_sumK (hc : X.calm = true) : CallR X (.builtin "sum") (fun xs H Q => ∃ (p : Addr) (ns : List Int), xs = [.ref p] ∧ SqL X.K H p (ns.map V.int) ∧ ns.length ≤ 1000 ∧ (∀ n ∈ ns, -10000 ≤ n ∧ n ≤ 10000) ∧ Q (.int ns.sum) H) := by
  intro pins s σ H xs us Q I r h
  obtain ⟨p, ns, rfl, hq, hl, hn, q⟩ := h
  obtain ⟨u, rfl, rx⟩ := vals1 r
  cases rx
  obtain ⟨its, rv, pl, hz⟩ := I.list hq
  have hlen := rv.length
  rw [List.length_map] at hlen
  have hlt : p < s.heap.objs.size := by obtain ⟨_, e, _⟩ := pl.isList; exact Heap.lt_size e
  have long : ∀ z : Int, -10000000 ≤ z → z ≤ 10000000 → InLong z := fun z h1 h2 => by unfold InLong; (first | lia | omega)
  refine call_sum_walk (wpAny_pyIter_list pl.isList ?_)
  refine ⟨s.heap.objs.size, [s.heap.objs.size, p], [s.heap.objs.size], its.toArray.size, _, _, fun i => (ns[i]?).getD 0, rfl, Walks.list (A := X.A.in1) (by simp [I.ok.hd hc]) _ p (Nat.ne_of_lt hlt) its.toArray, ⟨⟨_, Heap.get?_push_size _ rfl, rfl, rfl⟩, pl.isList.push _⟩, fun b hb => ?_, fun i v hP => ?_, fun j hj => ?_, fun h' tk t' hk => ?_⟩
  · show b < (s.heap.push _).objs.size
    rw [Heap.size_push]
    rcases List.mem_cons.mp hb with z | z
    · rw [z]; exact Nat.lt_succ_self _
    · rw [List.mem_singleton.mp z]; exact Nat.lt_succ_of_lt hlt
  · have hP' : its[i]? = some v := by simpa using hP
    have hi : i < ns.length := by rw [hlen]; exact (List.getElem?_eq_some_iff.mp hP').1
    obtain ⟨u, hu, ru⟩ := rv.get (i := i) (x := .int ns[i]) (by rw [List.getElem?_map]; simp [hi])
    rw [hP'] at hu; cases hu
    obtain ⟨t, rfl⟩ := ru
    exact ⟨t, by simp [hi]⟩
  · have hj' : j < ns.length := by rw [List.size_toArray] at hj; (first | lia | omega)
    refine ⟨?_, ?_⟩
    · have := hn ns[j] (List.getElem_mem hj')
      have e : (ns[j]?).getD 0 = ns[j] := by simp [hj']
      show InLong ((ns[j]?).getD 0)
      rw [e]; exact long _ (by (first | lia | omega)) (by (first | lia | omega))
    · rw [preSum_take]
      have := sum_small (B := 10000) (by decide) (ns := ns.take (j + 1)) fun n h => hn n (List.mem_of_mem_take h)
      have h2 : (ns.take (j + 1)).length ≤ 1000 := by rw [List.length_take]; (first | lia | omega)
      exact long _ (by (first | lia | omega)) (by (first | lia | omega))
  · have e : preSum (fun i => (ns[i]?).getD 0) its.toArray.size = ns.sum := by
      rw [preSum_take, List.size_toArray, ← hlen, List.take_of_length_le (Nat.le_refl _)]
    rw [e]
    exact ⟨.int _, H, I.kept (h' := h') (t' := tk) (LSm.kept_iter hk), ⟨_, rfl⟩, q⟩
end
end L2
set_option Elab.async false
set_option linter.all false
set_option maxRecDepth 100000
set_option maxHeartbeats 4000000
namespace L2
open PySem PySem.Spec PyProof.Rows
section
variable {X : Cx}
theorem call_maxT (hc : X.calm = true) : CallR X (.builtin "max") (fun xs H Q => ∃ (p : Addr) (ns : List Int), xs = [.ref p] ∧ SqT X.K H p (ns.map V.int) ∧ 0 < ns.length ∧ ∀ M, M ∈ ns → (∀ a ∈ ns, a ≤ M) → Q (.int M) H) := by
  intro pins s σ H xs us Q I r h
  obtain ⟨p, ns, rfl, hq, hl, q⟩ := h
  obtain ⟨u, rfl, rx⟩ := vals1 r
  cases rx
  obtain ⟨its, rv, pl, hz⟩ := I.tuple hq
  have hlen := rv.length
  rw [List.length_map] at hlen
  have pt : s.heap.IsTuple p its.toArray := pl
  have hlt : p < s.heap.objs.size := by obtain ⟨_, e, _⟩ := pl; exact Heap.lt_size e
  refine call_max_walk (wpAny_pyIter_tuple pt ?_)
  have hv : ∀ (i : Nat) (v : Value), its.toArray[i]? = some v → ∃ t, v = Value.int ((ns[i]?).getD 0) t := fun i v hP => by
    have hP' : its[i]? = some v := by simpa using hP
    have hi : i < ns.length := by rw [hlen]; exact (List.getElem?_eq_some_iff.mp hP').1
    obtain ⟨u, hu, ru⟩ := rv.get (i := i) (x := .int ns[i]) (by rw [List.getElem?_map]; simp [hi])
    rw [hP'] at hu; cases hu
    obtain ⟨t, rfl⟩ := ru
    exact ⟨t, by simp [hi]⟩
  refine ⟨s.heap.objs.size, [s.heap.objs.size, p], [s.heap.objs.size], its.toArray.size, _, _, _, rfl, Walks.tuple (A := X.A.in1) (by simp [I.ok.hd hc]) _ p (Nat.ne_of_lt hlt) its.toArray, ⟨⟨_, Heap.get?_push_size _ rfl, rfl, rfl⟩, pt.push _⟩, fun b hb => ?_, by rw [List.size_toArray]; (first | lia | omega), CmpOf.ints_gt (fun i => (ns[i]?).getD 0) hv, fun v h' tk hP hk => ?_⟩
  · show b < (s.heap.push _).objs.size
    rw [Heap.size_push]
    rcases List.mem_cons.mp hb with z | z
    · rw [z]; exact Nat.lt_succ_self _
    · rw [List.mem_singleton.mp z]; exact Nat.lt_succ_of_lt hlt
  · obtain ⟨b1, b2⟩ := argBest_gt (fun i => (ns[i]?).getD 0) (its.toArray.size - 1)
    rw [List.size_toArray] at b1 b2 hP
    obtain ⟨t, rfl⟩ := hv _ _ hP
    have hbl : argBest (fun i j => decide ((ns[i]?).getD 0 > (ns[j]?).getD 0)) (its.length - 1) < ns.length := by (first | lia | omega)
    refine ⟨.int _, H, I.kept (h' := h') (t' := tk) (LSm.kept_iter hk), ⟨_, rfl⟩, q _ ?_ fun a ha => ?_⟩
    · rw [show (ns[argBest (fun i j => decide ((ns[i]?).getD 0 > (ns[j]?).getD 0)) (its.length - 1)]?).getD 0 = ns[argBest (fun i j => decide ((ns[i]?).getD 0 > (ns[j]?).getD 0)) (its.length - 1)] by simp [hbl]]
      exact List.getElem_mem _
    · obtain ⟨j, hj, e⟩ := List.getElem_of_mem ha
      have := b2 j (by (first | lia | omega))
      have ej : (ns[j]?).getD 0 = a := by simp [hj, e]
      rw [← ej]; exact this
end
end L2
set_option Elab.async false
set_option linter.all false
set_option maxRecDepth 100000
set_option maxHeartbeats 4000000
namespace PySem
section
variable {prog : Program} {w : World} {A : Around} {E : Value → Shared → Prop} {s : Shared}
theorem zipD_end2 {z TI TO i1 i2 : Addr} {f1 f2 : List Addr} {n1 n2 : Nat} {P1 P2 : Nat → Value → Prop} {S1 S2 : Nat → Heap → Prop} {a b : Value} {Q : Fin → Shared → Prop} (D1 : Draws prog w A i1 f1 n1 P1 S1) (D2 : Draws prog w A i2 f2 n2 P2 S2) (D : ZipFar z TI TO i1 i2 f1 f2)
    (hz : IsZip s.heap z TI TO .none) (hTI : IsPair s.heap TI (.ref i1) (.ref i2)) (hTO : IsPair s.heap TO a b) (t1 : S1 n2 s.heap) (t2 : S2 n2 s.heap) (hk1 : n2 < n1)
    (hE : ∀ h' e tk, (∀ c o, c ≠ z → c ≠ TO → c ≠ i1 → c ≠ i2 → s.heap.get? c = some o → h'.get? c = some o) → (∃ o, h'.get? e = some o ∧ o.cls = .type "StopIteration") → E (.ref e) { s with heap := h', toks := tk }) :
    wpAny (model prog w) A (Builtin.«zip.__next__» ⟨[.ref z], []⟩) Q E s := by
  show wpAny _ _ (field (.ref z) 2 >>= _) _ _ _; refine wpAny_bind (wpAny_field hz rfl (x := .bool false) rfl ?_); show wpAny _ _ (field (.ref z) 3 >>= _) _ _ _
  refine wpAny_bind (wpAny_field hz rfl (x := .ref TI) rfl (wpAny_bind (wpAny_seqItems hTI rfl ?_)))
  show wpAny _ _ (Builtin.SmallTypes.ownedTupleIsFree (.ref z) >>= _) _ _ _; refine wpAny_bind ?_; unfold Builtin.SmallTypes.ownedTupleIsFree
  refine wpAny_bind (wpAny_field hz rfl (x := .none) rfl (wpAny_pure ?_)); simp only [if_true]
  refine wpAny_bind (wpAny_rule (wpAny_bind (wpAny_field hz rfl (x := .ref TO) rfl (wpAny_bind (wpAny_setField_rec hz (by simp) fun h₁ hz₁ hs₁ => ?_)))))
  replace hz₁ : IsZip h₁ z TI TO .ellipsis := hz₁
  refine wpAny_bind ?_; simp only [List.zipIdx_cons, List.zipIdx_nil, List.forIn_cons, List.forIn_nil]
  refine wpAny_bind (wpAny_bind (wpAny_onRaise ?_)); show wpAny _ _ (Builtin.SmallTypes.nextOf (.ref i1) >>= _) _ _ _
  have u1 : S1 n2 h₁ := D1.frame n2 _ _ t1 fun c hc o e => hs₁.extBut _ _ (fun q => D.z1 (q ▸ hc)) e
  refine wpAny_bind (D1.item n2 _ _ _ hk1 u1 fun x h₂ tk₂ hx v1 hs₂ => wpAny_pure ?_)
  have hTO₂ : IsPair h₂ TO a b := hs₂.extBut _ _ D.O1 (hs₁.extBut _ _ D.Oz hTO)
  refine wpAny_bind (wpAny_seqItems hTO₂ rfl (wpAny_bind (wpAny_updateSeq_pair hTO₂ fun h₃ hTO₃ hs₃ => ?_)))
  refine wpAny_bind (wpAny_letGo (wpAny_pure ?_)); refine wpAny_bind (wpAny_bind (wpAny_onRaise ?_)); show wpAny _ _ (Builtin.SmallTypes.nextOf (.ref i2) >>= _) _ _ _
  have u2 : S2 n2 h₃ := D2.frame n2 _ _ t2 fun c hc o e => hs₃.extBut _ _ (fun q => D.o2 (q ▸ hc)) (hs₂.extBut _ _ (fun q => D.c1 (q ▸ hc)) (hs₁.extBut _ _ (fun q => D.z2 (q ▸ hc)) e))
  refine wpAny_bind (D2.done _ _ _ u2 fun h₄ e hs₄ he => ?_)
  obtain ⟨oe, hoe, hce⟩ := he
  have hz₄ : IsZip h₄ z TI TO .ellipsis := hs₄ _ _ D.jz.symm (hs₃.extBut _ _ D.Oz.symm (hs₂.extBut _ _ D.iz.symm hz₁))
  have hez : e ≠ z := fun x => by subst x; rw [hz₄] at hoe; cases hoe; simp at hce
  refine wpAny_setField_rec hz₄ (by simp) fun h₅ _ hs₅ => hE h₅ e _ (fun c o c1 c2 c3 c4 x => hs₅.extBut _ _ c1 (hs₄ _ _ c4 (hs₃.extBut _ _ c2 (hs₂.extBut _ _ c3 (hs₁.extBut _ _ c1 x))))) ⟨oe, hs₅.extBut _ _ hez hoe, hce⟩
theorem nextZ_end2 {z TI TO i1 i2 : Addr} {f1 f2 : List Addr} {n1 n2 : Nat} {P1 P2 : Nat → Value → Prop} {S1 S2 : Nat → Heap → Prop} {a b : Value} {Q : Option Value → Shared → Prop} (D1 : Draws prog w A.in1 i1 f1 n1 P1 S1) (D2 : Draws prog w A.in1 i2 f2 n2 P2 S2) (D : ZipFar z TI TO i1 i2 f1 f2)
    (hz : IsZip s.heap z TI TO .none) (hTI : IsPair s.heap TI (.ref i1) (.ref i2)) (hTO : IsPair s.heap TO a b) (t1 : S1 n2 s.heap) (t2 : S2 n2 s.heap) (hk1 : n2 < n1)
    (hQ : ∀ h' tk, (∀ c o, c ≠ z → c ≠ TO → c ≠ i1 → c ≠ i2 → s.heap.get? c = some o → h'.get? c = some o) → Q none { s with heap := h', toks := tk }) : wpAny (model prog w) A (pyNext (.ref z)) Q E s := by
  have hT : s.TypeIs (.ref z) "zip" := ⟨_, hz, rfl⟩
  unfold pyNext
  refine wpAny_bind (wpAny_attempt (wpAny_callSpecial?_slot (name := Str.ofString "__next__") hT F.slot_zip_next (wpAny_call_entry F.slot_zip_next hT F.entry_zip_next (zipD_end2 D1 D2 D hz hTI hTO t1 t2 hk1 fun h' e tk hk he => ?_) (F.args_zip_next_1 _))))
  obtain ⟨o, ho, hc⟩ := he
  exact wpAny_bind (wpAny_isInstance (T := "StopIteration") (b := true) ⟨o, ho, hc⟩ isSubtype_stop (wpAny_pure (hQ _ _ hk)))
end
end PySem
namespace L2
open PySem PySem.Spec PyProof.Rows
noncomputable def Itz2 (S1 S2 : Hp → List V → Prop) : It := ⟨(Itz S1 S2).go, (Itz S1 S2).yld, fun i H => ∃ xs ys, S1 H xs ∧ S2 H ys ∧ ys.length = i ∧ i < xs.length⟩
theorem turn_zip2 {P : Program} {w : World} {K : PySem.W.Frag} {es : List Expr} {x1} {pos : Pos} {k : SeqK} (ok : k.Ok) (z TI TO i1 i2 a b : Addr) (D : ZipFar z TI TO i1 i2 [i1, a] [i2, b]) (ha : a ≠ i1) (hb : b ≠ i2) :
    Turn P w K (.Tuple es x1 pos) (Itz2 (fun H xs => k.Sq K H a xs) fun H ys => k.Sq K H b ys) [z, TI, TO, i1, i2] z (fun i h => IsZip h z TI TO .none ∧ IsPair h TI (.ref i1) (.ref i2) ∧ (∃ u v, IsPair h TO u v) ∧ k.iit h i1 a i ∧ k.iit h i2 b i) where
  mem := by simp
  obj := (turn_zip (P := P) (w := w) (K := K) (es := es) (x1 := x1) (pos := pos) ok z TI TO i1 i2 a b D ha hb).obj
  keep := (turn_zip (P := P) (w := w) (K := K) (es := es) (x1 := x1) (pos := pos) ok z TI TO i1 i2 a b D ha hb).keep
  item := (turn_zip (P := P) (w := w) (K := K) (es := es) (x1 := x1) (pos := pos) ok z TI TO i1 i2 a b D ha hb).item
  done := by
    intro X hP hw hK hc i pins s σ H E I hf st hg
    subst hP hw hK
    obtain ⟨hz, hTI, ⟨u, v, hTO⟩, h1, h2⟩ := st
    obtain ⟨xs, ys, q1, q2, hy, hx⟩ := hg
    obtain ⟨its, rv, p1⟩ := ok.get I q1
    obtain ⟨jts, rw', p2⟩ := ok.get I q2
    have hl := rv.length
    have hl2 := rw'.length
    have hi2 : jts.toArray.size = i := by rw [List.size_toArray, ← hl2, hy]
    have hi1 : i < its.toArray.size := by rw [List.size_toArray, ← hl]; exact hx
    have hh : X.A.in1.handled = none := by simp [I.ok.hd hc]
    refine nextZ_end2 (ok.dr hh i1 a ha its.toArray) (ok.dr hh i2 b hb jts.toArray) D hz hTI hTO (by rw [hi2]; exact ⟨h1, p1⟩) (by rw [hi2]; exact ⟨h2, p2⟩) (by rw [hi2]; exact hi1) fun h' tk hk => ⟨rfl, ?_⟩
    exact I.turnedL (fp := [z, TI, TO, i1, i2]) (t' := tk) (fun c o hc' q => hk c o (fun e => hc' (by simp [e])) (fun e => hc' (by simp [e])) (fun e => hc' (by simp [e])) (fun e => hc' (by simp [e])) q) hf
  self := (turn_zip (P := P) (w := w) (K := K) (es := es) (x1 := x1) (pos := pos) ok z TI TO i1 i2 a b D ha hb).self
noncomputable def iZip2 (k : SeqK) (K : PySem.W.Frag) (ta : TA) : TI := fun σ H R => ta σ H fun vs H1 => ∃ a b xs ys, vs = [.ref a, .ref b] ∧ k.Sq K H1 a xs ∧ k.Sq K H1 b ys ∧ R (Itz2 (fun H xs => k.Sq K H a xs) fun H ys => k.Sq K H b ys) H1
section
variable {X : Cx}
theorem pi_zip2 {a b : Expr} {ta : TA} {p pos : Pos} {es : List Expr} {x1} {tpos : Pos} {k : SeqK} (ok : k.Ok) (hg : Gl X "zip") (hm : X.mg "zip" = none) (ha : PA X [a, b] ta) (hs : starEach [a, b] X.env = [(false, eval a X.env), (false, eval b X.env)] := by rfl) (hs2 : starEach [b] X.env = [(false, eval b X.env)] := by rfl) :
    PI X (.Tuple es x1 tpos) (.Call (.Name "zip" p) [a, b] [] pos) (iZip2 k X.K ta) := by
  intro pins s σ H R I h
  refine Call_ (ld_blt I hg hm boot_zip (PyProof.Rows.callWith_type1 (thn (ha pos pins s σ H _ I h) fun us s1 ⟨vs, H1, I1, r1, q1⟩ => ?_) (by rw [hs, hs2]) (by rw [hs2]; rfl)))
  obtain ⟨a', b', xs, ys, e, q1, q2, q⟩ := q1
  subst e
  obtain ⟨u, v, rfl, rx, ry⟩ := vals2 r1
  cases rx
  cases ry
  obtain ⟨its, rv, p1⟩ := ok.get I1 q1
  obtain ⟨jts, rw', p2⟩ := ok.get I1 q2
  have l1 := ok.lt p1
  have l2 := ok.lt p2
  refine ok.zip p1 p2 fun h' a1 a2 a3 a4 a5 a7 => ?_
  refine wpAny_pyIter_zip (s := { s1 with heap := h' }) a1 ?_
  have I2 : Inv X pins σ H1 { s1 with heap := h' } := I1.kept (t' := s1.toks) a7
  have far := zipFar_new s1.heap.objs.size a' b' l1 l2
  refine ⟨s1.heap.objs.size + 4, [s1.heap.objs.size + 4, s1.heap.objs.size + 2, s1.heap.objs.size + 3, s1.heap.objs.size, s1.heap.objs.size + 1], _, _, H1, rfl, I2, turn_zip2 ok _ _ _ _ _ a' b' far (Nat.ne_of_lt l1) (Nat.ne_of_lt (Nat.lt_succ_of_lt l2)), ⟨a1, a2, ⟨_, _, a3⟩, a4, a5⟩, fun c hc' => ?_, q⟩
  have hge : s1.heap.objs.size ≤ c := by
    simp only [List.mem_cons, List.not_mem_nil, or_false] at hc'
    rcases hc' with rfl | rfl | rfl | rfl | rfl
    · exact Nat.le_add_right _ 4
    · exact Nat.le_add_right _ 2
    · exact Nat.le_add_right _ 3
    · exact Nat.le_refl _
    · exact Nat.le_succ _
  exact I1.fpOk hge (I1.hok.fresh hge)
theorem for_zip2 {S1 S2 : Hp → List V → Prop} {xs ys : List V} {g : TG} {tb : TS} {D : Ends} {σ : St} {H : Hp} (hlen : ys.length < xs.length) (Pv : Nat → St → Hp → Prop) (h0 : Pv 0 σ H) (hl : ∀ i σ H, Pv i σ H → S1 H xs ∧ S2 H ys)
    (hs : ∀ i x y p σ H, xs[i]? = some x → ys[i]? = some y → Pv i σ H → H p = none → g (.ref p) σ (upd H p (.tup [x, y])) fun σ2 H2 => tb { D with nx := Pv (i + 1), ct := Pv (i + 1), bk := D.nx } σ2 H2) (hd : ∀ σ H, Pv ys.length σ H → D.nx σ H) :
    tForJ (Itz2 S1 S2) g tb D σ H := by
  refine ⟨fun i m σ H => m = ys.length - i ∧ i ≤ ys.length ∧ Pv i σ H, ⟨ys.length, by simp, Nat.zero_le _, h0⟩, ?_⟩
  rintro i m σ H ⟨rfl, hi, p⟩
  obtain ⟨q1, q2⟩ := hl i σ H p
  by_cases hlt2 : i < ys.length
  · have hlt : i < xs.length := by (first | lia | omega)
    refine .inr ⟨⟨xs, ys, xs[i], ys[i], q1, q2, by simp [hlt], by simp [hlt2]⟩, Pv (i + 1), fun σ' H' p' => ⟨ys.length - (i + 1), by (first | lia | omega), rfl, hlt2, p'⟩, fun x H' y => ?_⟩
    obtain ⟨pp, a, b, e1, e2, e3, e4, e5⟩ := y
    subst e1 e3
    exact hs i a b pp σ H (e4 xs q1) (e5 ys q2) p e2
  · have e : i = ys.length := by (first | lia | omega)
    subst e
    exact .inl ⟨⟨xs, ys, q1, q2, rfl, hlen⟩, hd σ H p⟩
end
end L2
set_option Elab.async false
set_option linter.all false
set_option maxRecDepth 100000
set_option maxHeartbeats 4000000
namespace PySem
section
variable {prog : Program} {w : World} {A : Around} {E : Value → Shared → Prop} {s : Shared}
theorem rawItems_call {d : Addr} {o : Obj} {Q : Value → Shared → Prop} (ho : s.heap.get? d = some o) (hx : o.ExactDict) (hd : (d == sysModules) = false) (h : Q (.ref s.heap.objs.size) { s with heap := s.heap.push { cls := .type "dict_items", data := .fields #[.ref d] } }) :
    wpAny (model prog w) A (call (.builtin "dict.items") [.ref d]) Q E s := by
  have hT : s.TypeIs (.ref d) "dict" := ⟨o, ho, hx.1⟩
  refine wpAny_call_entry F.slot_dict_items hT F.entry_dict_items ?_ (F.args_dict_items_1 _)
  unfold Builtin.«dict.items»; refine wpAny_bind ?_; unfold Builtin.Dict.noArgs
  refine wpAny_bind (wpAny_notOrdered_dict hT ?_); show wpAny _ _ (pure d) _ _ s; refine wpAny_pure ?_
  show wpAny _ _ (Builtin.Dict.showsAll d >>= _) _ _ s; unfold Builtin.Dict.showsAll
  rw [if_neg (by rw [hd]; exact Bool.false_ne_true)]; refine wpAny_bind (wpAny_pure ?_)
  exact wpAny_bind (wpAny_newObj_type (wpAny_pure ⟨_, rfl, h⟩))
theorem rawItems_iter {v d : Addr} {o : Obj} {es : Array DictEntry} {ep : Nat} {Q : Value → Shared → Prop} (hv : s.heap.IsItemsView v d) (ho : s.heap.get? d = some o) (hd : o.data = .dict es ep)
    (hQ : Q (.ref s.heap.objs.size) { s with heap := s.heap.push { cls := .type "dict_itemiterator", data := .fields #[.none, .bool false, .ref d, .int 0 0, .int es.size 0, .int ep 0, .none, .none] } }) :
    wpAny (model prog w) A (pyIter (.ref v)) Q E s := by
  obtain ⟨ov, hov, hcv, hdv⟩ := id hv
  refine wpAny_pyIter_slot hv.typeIs F.slot_dict_items_iter (wpAny_call_entry F.slot_dict_items_iter hv.typeIs F.entry_dict_items_iter ?_ (F.args_dict_items_iter_1 _))
  unfold Builtin.«dict_items.__iter__»; refine wpAny_bind (wpAny_pure ?_); refine wpAny_bind ?_; unfold Builtin.Dict_items.dictOf
  refine wpAny_bind (wpAny_field hov hdv (x := .ref d) rfl (wpAny_pure ?_)); refine wpAny_bind ?_; unfold Builtin.Dict_items.newIterator
  refine wpAny_bind (wpAny_dictEntries ho hd (wpAny_bind (wpAny_dictEpoch ho hd ?_)))
  simp only [show Builtin.Dict_items.ownsTuple "dict_itemiterator" = true by decide, if_true]
  refine wpAny_newObj_type (wpAny_pure ⟨_, rfl, "dict_itemiterator", _, ⟨_, Heap.get?_push_size _ rfl, rfl⟩, F.slot_dict_itemiterator_next.lookup, ?_⟩) (by simp only [sizeOk, Builtin.Dict_items.ownedTupleFields, List.size_toArray, List.length_append, List.length_cons, List.length_nil, sizeLine_eq]; (first | lia | omega))
  simpa [rawInt, Builtin.Dict_items.ownedTupleFields] using hQ
theorem rawItems_item {it d : Addr} {i ep : Nat} {o : Obj} {es : Array DictEntry} {ok ov : Value} {Q : Option Value → Shared → Prop} (hit : IsItemIter s.heap it d i es.size ep ok ov) (ho : s.heap.get? d = some o) (hd : o.data = .dict es ep) (hi : i < es.size)
    (hQ : ∀ h', IsItemIterOut h' it d (i + 1) es.size ep es[i].key es[i].val s.heap.objs.size → h'.get? s.heap.objs.size = some { cls := .type "tuple", data := .seq #[es[i].key, es[i].val] } → h'.objs.size = s.heap.objs.size + 1 →
      (∀ b o, b ≠ it → s.heap.get? b = some o → h'.get? b = some o) → Q (some (.ref s.heap.objs.size)) { s with heap := h' }) : wpAny (model prog w) A (pyNext (.ref it)) Q E s := by
  obtain ⟨hp, g, dr, tk, os⟩ := s
  have hT : Shared.TypeIs ⟨hp, g, dr, tk, os⟩ (.ref it) "dict_itemiterator" := ⟨_, hit, rfl⟩
  unfold pyNext
  refine wpAny_bind (wpAny_attempt (wpAny_callSpecial?_slot (name := Str.ofString "__next__") hT F.slot_dict_itemiterator_next (wpAny_call_entry F.slot_dict_itemiterator_next hT F.entry_dict_itemiterator_next ?_ (F.args_dict_itemiterator_next_1 _))))
  refine wpAny_bind (wpAny_pure ?_); refine wpAny_bind ?_; refine wpAny_bind ?_
  first | (refine wpAny_bind (wpAny_typeNameOfWhole_itemiter hT (wpAny_pure ?_)); skip) | (refine wpAny_bind (wpAny_typeNameOf_itemiter hT (wpAny_pure ?_)); skip)
  refine wpAny_bind (wpAny_fieldsOf hit rfl ?_); simp only [show Builtin.Dict_items.ownsTuple "dict_itemiterator" = true by decide, if_true]
  show wpAny _ _ (if (Value.ref d == Value.none) = true then _ else _) _ _ _; rw [if_neg (show ¬ ((Value.ref d == Value.none) = true) from Bool.false_ne_true)]
  refine wpAny_bind (wpAny_pure ?_); refine wpAny_bind (wpAny_dictEntries ho hd ?_); rw [if_neg (by simp)]
  refine wpAny_bind (wpAny_pure ?_); refine wpAny_bind (wpAny_dictEpoch ho hd ?_); rw [if_neg (by simp)]; refine wpAny_pure ?_
  simp only [show ¬ ((i : Int) < 0) by (first | lia | omega), if_false, Int.toNat_natCast, Array.getElem?_eq_getElem hi]; refine wpAny_bind ?_
  first | (refine wpAny_bind (wpAny_typeNameOfWhole_itemiter hT (wpAny_pure ?_)); skip) | (refine wpAny_bind (wpAny_typeNameOf_itemiter hT (wpAny_pure ?_)); skip)
  refine wpAny_bind (wpAny_isOneOf_itemiter hT ?_); show wpAny _ _ (setField (.ref it) 3 (rawInt ((i : Int) + 1)) >>= _) _ _ ⟨hp, g, dr, tk, os⟩
  refine wpAny_bind (wpAny_setField_rec hit (by simp) fun h₁ he₁ hs₁ => ?_); replace hs₁ : Heap.SameBut it hp h₁ := hs₁
  replace he₁ : IsItemIter h₁ it d (i + 1) es.size ep ok ov := by
    have e : ((i + 1 : Nat) : Int) = (i : Int) + 1 := by (first | lia | omega)
    unfold IsItemIter; rw [e]; simpa [rawInt] using he₁
  have hT₁ : Shared.TypeIs ⟨h₁, g, dr, tk, os⟩ (.ref it) "dict_itemiterator" := ⟨_, he₁, rfl⟩
  refine wpAny_bind (wpAny_holding ?_); refine wpAny_bind (wpAny_isOneOf_itemiter hT₁ (wpAny_bind (wpAny_isOneOf_itemiter hT₁ ?_)))
  show wpAny _ _ (Builtin.Dict_items.pairFromOwner (.ref it) 6 es[i].key es[i].val) _ _ ⟨h₁, g, dr, tk, os⟩; unfold Builtin.Dict_items.pairFromOwner
  refine wpAny_bind (wpAny_newTuple ?_)
  have he₂ : IsItemIter (h₁.push { cls := .type "tuple", data := .seq #[es[i].key, es[i].val] }) it d (i + 1) es.size ep ok ov := Heap.get?_push_of_some _ he₁
  generalize hh₂ : h₁.push { cls := .type "tuple", data := .seq #[es[i].key, es[i].val] } = h₂ at he₂
  have hz₁ : h₁.objs.size = hp.objs.size := hs₁.1
  have hil := Heap.lt_size hit
  have ht₂ : h₂.get? hp.objs.size = some { cls := .type "tuple", data := .seq #[es[i].key, es[i].val] } := by rw [← hh₂, ← hz₁]; exact Heap.get?_push_size _ rfl
  have hz₂ : h₂.objs.size = hp.objs.size + 1 := by rw [← hh₂, Heap.size_push, hz₁]
  have hk₂ : ∀ b o, b ≠ it → hp.get? b = some o → h₂.get? b = some o := fun b o hb e => by rw [← hh₂]; exact Heap.get?_push_of_some _ (hs₁.extBut b o hb e)
  show wpAny _ _ (Builtin.Dict_items.ownedTupleIsFree (.ref it) >>= _) _ _ ⟨h₂, g, dr, tk, os⟩; rw [hz₁]
  clear hh₂ he₁ hs₁ hT₁ hz₁ h₁
  refine wpAny_bind ?_; unfold Builtin.Dict_items.ownedTupleIsFree
  refine wpAny_bind (wpAny_field he₂ rfl (x := .none) rfl (wpAny_pure ?_)); simp only [if_true]
  refine wpAny_bind (wpAny_field he₂ rfl (x := ok) rfl (wpAny_bind (wpAny_field he₂ rfl (x := ov) rfl ?_)))
  refine wpAny_bind (wpAny_setField_rec he₂ (by simp) fun h₃ he₃ hs₃ => ?_); replace hs₃ : Heap.SameBut it h₂ h₃ := hs₃
  replace he₃ : IsItemIter h₃ it d (i + 1) es.size ep es[i].key ov := he₃
  refine wpAny_bind (wpAny_setField_rec he₃ (by simp) fun h₄ he₄ hs₄ => ?_); replace hs₄ : Heap.SameBut it h₃ h₄ := hs₄
  replace he₄ : IsItemIter h₄ it d (i + 1) es.size ep es[i].key es[i].val := he₄
  refine wpAny_bind (wpAny_setField_rec he₄ (by simp) fun h₅ he₅ hs₅ => ?_); replace hs₅ : Heap.SameBut it h₄ h₅ := hs₅
  replace he₅ : IsItemIterOut h₅ it d (i + 1) es.size ep es[i].key es[i].val hp.objs.size := he₅
  refine wpAny_bind (wpAny_setField_rec he₅ (by simp) fun h₆ he₆ hs₆ => ?_); replace hs₆ : Heap.SameBut it h₅ h₆ := hs₆
  replace he₆ : IsItemIterOut h₆ it d (i + 1) es.size ep es[i].key es[i].val hp.objs.size := he₆
  refine wpAny_bind (wpAny_letGo (wpAny_pure (wpAny_pure ⟨_, rfl, wpAny_pure (hQ h₆ he₆ ?_ ?_ ?_)⟩)))
  · have ne := Nat.ne_of_gt hil
    exact hs₆.extBut _ _ ne (hs₅.extBut _ _ ne (hs₄.extBut _ _ ne (hs₃.extBut _ _ ne ht₂)))
  · show h₆.objs.size = _
    rw [hs₆.1, hs₅.1, hs₄.1, hs₃.1, hz₂]
  · exact fun b o hb e => hs₆.extBut b o hb (hs₅.extBut b o hb (hs₄.extBut b o hb (hs₃.extBut b o hb (hk₂ b o hb e))))
theorem rawItems_end {it d : Addr} {i ep : Nat} {o : Obj} {es : Array DictEntry} {ok ov : Value} {Q : Option Value → Shared → Prop} (hh : A.handled = none) (hit : IsItemIter s.heap it d i es.size ep ok ov) (ho : s.heap.get? d = some o) (hd : o.data = .dict es ep) (hi : es.size ≤ i)
    (hQ : ∀ h', Heap.ExtBut it s.heap h' → Q none { s with heap := h' }) : wpAny (model prog w) A (pyNext (.ref it)) Q E s := by
  have hT : s.TypeIs (.ref it) "dict_itemiterator" := ⟨_, hit, rfl⟩
  unfold pyNext
  refine wpAny_bind (wpAny_attempt (wpAny_callSpecial?_slot (name := Str.ofString "__next__") hT F.slot_dict_itemiterator_next (wpAny_call_entry F.slot_dict_itemiterator_next hT F.entry_dict_itemiterator_next ?_ (F.args_dict_itemiterator_next_1 _))))
  refine wpAny_bind (wpAny_pure ?_); refine wpAny_bind ?_; refine wpAny_bind ?_
  first | (refine wpAny_bind (wpAny_typeNameOfWhole_itemiter hT (wpAny_pure ?_)); skip) | (refine wpAny_bind (wpAny_typeNameOf_itemiter hT (wpAny_pure ?_)); skip)
  refine wpAny_bind (wpAny_fieldsOf hit rfl ?_); simp only [show Builtin.Dict_items.ownsTuple "dict_itemiterator" = true by decide, if_true]
  show wpAny _ _ (if (Value.ref d == Value.none) = true then _ else _) _ _ s; rw [if_neg (show ¬ ((Value.ref d == Value.none) = true) from Bool.false_ne_true)]
  refine wpAny_bind (wpAny_pure ?_); refine wpAny_bind (wpAny_dictEntries ho hd ?_); rw [if_neg (by simp)]
  refine wpAny_bind (wpAny_pure ?_); refine wpAny_bind (wpAny_dictEpoch ho hd ?_); rw [if_neg (by simp)]; refine wpAny_pure ?_
  simp only [show ¬ ((i : Int) < 0) by (first | lia | omega), if_false, Int.toNat_natCast, Array.getElem?_eq_none hi]; refine wpAny_bind ?_
  first | (refine wpAny_bind (wpAny_typeNameOfWhole_itemiter hT (wpAny_pure ?_)); skip) | (refine wpAny_bind (wpAny_typeNameOf_itemiter hT (wpAny_pure ?_)); skip)
  show wpAny _ _ (setField (.ref it) 2 .none >>= _) _ _ s; refine wpAny_bind (wpAny_setField hit rfl (by simp) ?_)
  show wpAny _ _ (newExc (.type "StopIteration") [] >>= _) _ _ _; refine wpAny_bind ?_; simp only [newExc, newTuple]
  refine wpAny_bind (wpAny_newObj_type ?_ (by size_fits)); refine wpAny_bind (m := firstArgMember _ _) (wpAny_of_eq (a := Value.none) (by first | rfl | (simp only [firstArgMember]; rfl)) ?_)
  refine wpAny_newObj_type ?_ (by size_fits); simp only [raiseNew]; refine wpAny_bind (wpAny_handled ?_); rw [show A.in1.handled = none from hh]
  refine wpAny_bind (wpAny_pure (wpAny_throw ?_)); refine wpAny_bind (wpAny_isInstance (T := "StopIteration") (b := true) ⟨_, Heap.get?_push_size _ rfl, rfl⟩ isSubtype_stop ?_)
  exact wpAny_pure (hQ _ (((Heap.SameBut.update ..).extBut.push _).push _))
theorem rawItems_self {it d : Addr} {i n ep : Nat} {ok ov : Value} {Q : Value → Shared → Prop} (hit : IsItemIter s.heap it d i n ep ok ov) (h : Q (.ref it) s) : wpAny (model prog w) A (pyIter (.ref it)) Q E s := by
  have hT : s.TypeIs (.ref it) "dict_itemiterator" := ⟨_, hit, rfl⟩
  have ent : entryFor table "dict_itemiterator.__iter__" = some Builtin.«dict_keyiterator.__iter__» := entryFor_alias (id' := "dict_keyiterator.__iter__") (by kernel_rfl) rfl (by decide +kernel) (by kernel_rfl)
  refine wpAny_pyIter_slot hT F.slot_dict_itemiterator_iter (wpAny_call_entry F.slot_dict_itemiterator_iter hT ent ?_ (F.args_dict_itemiterator_iter_1 _))
  show wpAny _ _ (ret (.ref it)) _ _ s
  exact wpAny_pure ⟨_, rfl, "dict_itemiterator", _, hT, F.slot_dict_itemiterator_next.lookup, h⟩
end
end PySem
namespace L2
open PySem PySem.Spec PyProof.Rows
theorem Inv.freeze {X : Cx} {pins : List (Addr × Obj)} {σ : St} {H : Hp} {s : Shared} {d : Addr} {o : Obj} {u : HO} (I : Inv X pins σ H s) (hm : Mut (H d)) (hd : H d = some u) (ho : s.heap.get? d = some o) : Inv X pins σ (upd H d (.frz o u)) s := by
  have hu : Un X.fs [] H (upd H d (.frz o u)) s.heap s.heap := by
    refine ⟨fun _ _ q _ _ _ => q, fun b ob q _ _ _ => ⟨ob.slots, q⟩, fun b _ _ n _ => ?_, fun b ob q _ => ⟨ob, q⟩, fun b xs q => ?_, fun b ob v q => ?_, fun b ps q => ⟨#[], ?_⟩⟩
    · rw [upd_ne (fun z => by rw [z, hd] at n; cases n)]; exact n
    · rw [upd_ne (fun z => by rw [z] at q; rw [q] at hm; exact hm)]; exact q
    · rw [upd_ne (fun z => by rw [z] at q; rw [q] at hm; exact hm)]; exact q
    · rw [upd_ne (fun z => by rw [z] at q; rw [q] at hm; exact hm), q]; simp
  have hok : HOk X.prog X.w (upd H d (.frz o u)) s.heap := fun b v q => by
    have st : ∀ c w', ObjOk X.prog X.w H s.heap c w' → ObjOk X.prog X.w (upd H d (.frz o u)) s.heap c w' := fun c w' x =>
      x.stay (fun _ _ _ q => q) (fun b q => by rw [upd_ne (fun z => by rw [z] at q; rw [q] at hm; exact hm)]; exact q) fun b xs q => by rw [upd_ne (fun z => by rw [z] at q; rw [q] at hm; exact hm)]; exact q
    by_cases hb : b = d
    · subst hb
      rw [upd_same] at q; cases q
      exact ⟨ho, st _ _ (I.hok _ _ hd)⟩
    · rw [upd_ne hb] at q
      exact st _ _ (I.hok _ _ q)
  have := I.un (h' := s.heap) (t' := s.toks) hu hok
  exact this
noncomputable def Itm (d : Addr) (o : Obj) (kvs : List (List Key × V)) : It :=
  ⟨fun i H => H d = some (.frz o (.dT kvs)) ∧ i < kvs.length,
   fun i H v H' => ∃ p b k x, v = .ref p ∧ H p = none ∧ H' = upd H p (.tup [.ref b, x]) ∧ kvs[i]? = some (k, x) ∧ H b = some (.tup (k.map kV)),
   fun i H => H d = some (.frz o (.dT kvs)) ∧ i = kvs.length⟩
theorem turn_items {P : Program} {w : World} {K : PySem.W.Frag} {es : List Expr} {x1} {pos : Pos} (it d : Addr) (o : Obj) (kvs : List (List Key × V)) (ens : Array DictEntry) (ep : Nat) (hd : o.data = .dict ens ep) (hz : ens.size = kvs.length) :
    Turn P w K (.Tuple es x1 pos) (Itm d o kvs) [it] it (fun i h => ∃ ok ov, IsItemIter h it d i ens.size ep ok ov) where
  mem := by simp
  obj := fun i h ⟨ok, ov, st⟩ c hc => by
    rw [List.mem_singleton.mp hc]
    exact ⟨_, st, fun v z => by cases z⟩
  keep := fun i h h' ⟨ok, ov, st⟩ kp => ⟨ok, ov, kp it (by simp) _ st⟩
  item := by
    intro X hP hw hK hc i pins s σ H E I hf st hg
    subst hP hw hK
    obtain ⟨ok, ov, st⟩ := st
    obtain ⟨g1, g2⟩ := hg
    obtain ⟨ho, ob⟩ := (show ObjOk X.prog X.w H s.heap d (.frz o (.dT kvs)) from I.hok _ _ g1)
    obtain ⟨_, _, xs, rp, o', es', ep', ho', hx', hd', he', _⟩ := ob
    rw [ho] at ho'; cases ho'
    rw [hd] at hd'; cases hd'
    have hi : i < ens.size := by (first | lia | omega)
    have hxs : xs.length = kvs.length := (Paired.length rp).symm
    have hki : kvs[i]? = some kvs[i] := List.getElem?_eq_getElem g2
    have hxi : i < xs.length := by (first | lia | omega)
    have hent : ens[i] = entryOfKey (tupleKind (mixKind X.prog X.w)) xs[i] := by
      have := entry_at (knd := tupleKind (mixKind X.prog X.w)) he' i
      rw [Array.getElem?_eq_getElem hi, List.getElem?_eq_getElem hxi] at this
      exact Option.some.inj this
    have hpr : kvs[i].1 = xs[i].1 ∧ H xs[i].2.1 = some (.tup (kvs[i].1.map kV)) ∧ RelV kvs[i].2 xs[i].2.2 := by
      have go : ∀ (l : List (List Key × V)) (m : List (List Key × Addr × Value)) (j : Nat) (a : j < l.length) (b : j < m.length), Paired (fun (p : List Key × V) (q : List Key × Addr × Value) => p.1 = q.1 ∧ H q.2.1 = some (.tup (p.1.map kV)) ∧ RelV p.2 q.2.2) l m → l[j].1 = m[j].1 ∧ H m[j].2.1 = some (.tup (l[j].1.map kV)) ∧ RelV l[j].2 m[j].2.2 := by
        intro l m j a b r
        induction r generalizing j with
        | nil => cases a
        | cons r t ih =>
          cases j with
          | zero => exact r
          | succ j => exact ih j (by simpa using a) (by simpa using b)
      exact go kvs xs i g2 hxi rp
    refine rawItems_item st ho hd hi fun h' g1' g2' g3' g4' => ?_
    refine ⟨_, rfl, wpAny_letOwnedTupleGo_items (s := { s with heap := h' }) g1' fun h2 hz2 hs2 => ?_⟩
    have lz : s.heap.objs.size ≠ it := Nat.ne_of_gt (Heap.lt_size st)
    have hn : H s.heap.objs.size = none := I.hok.fresh (Nat.le_refl _)
    have kp : ∀ c o, c ∉ [it] → s.heap.get? c = some o → h2.get? c = some o := fun c o hc' q => by
      have c1 : c ≠ it := fun e => hc' (by simp [e])
      exact (hs2.2 c c1).trans (g4' c o c1 q)
    have hT2 := (hs2.2 _ lz).trans g2'
    rw [hent] at hT2
    have I2 : Inv X pins σ (upd H s.heap.objs.size (.tup [.ref xs[i].2.1, kvs[i].2])) { s with heap := h2, toks := s.toks } := I.turnLaid (fp := [it]) kp hf (Nat.le_refl _) ⟨by show 2 ≤ sizeLine; rw [sizeLine_eq]; decide, [.ref xs[i].2.1, xs[i].2.2], .cons rfl (.cons hpr.2.2 .nil), ⟨_, hT2, rfl, _, rfl⟩⟩
    refine ⟨.ref s.heap.objs.size, _, I2, rfl, ⟨s.heap.objs.size, xs[i].2.1, kvs[i].1, kvs[i].2, rfl, hn, rfl, hki, hpr.2.1⟩, ⟨_, _, hz2⟩, fun c hc' => ?_⟩
    rw [List.mem_singleton.mp hc', upd_ne lz.symm]
    exact (hf it (by simp)).1
  done := by
    intro X hP hw hK hc i pins s σ H E I hf st hg
    subst hP hw hK
    obtain ⟨ok, ov, st⟩ := st
    obtain ⟨g1, g2⟩ := hg
    obtain ⟨ho, ob⟩ := (show ObjOk X.prog X.w H s.heap d (.frz o (.dT kvs)) from I.hok _ _ g1)
    refine rawItems_end (I.ok.hd hc) st ho hd (by (first | lia | omega)) fun h' hk => ⟨rfl, ?_⟩
    exact I.turnedL (fp := [it]) (t' := s.toks) (fun c o hc' q => hk c o (fun e => hc' (by simp [e])) q) hf
  self := fun _ _ _ _ _ ⟨ok, ov, st⟩ h => rawItems_self st h
noncomputable def iItems (td : TE) : TI := fun σ H R => td σ H fun x H1 => ∃ d kvs, x = .ref d ∧ H1 d = some (.dT kvs) ∧ ∀ o, R (Itm d o kvs) (upd H1 d (.frz o (.dT kvs)))
section
variable {X : Cx}
theorem pi_items {a : Expr} {td : TE} {apos cpos : Pos} {es : List Expr} {x1} {tpos : Pos} (ha : PE X a td) (hbase : attributeBase a "items" X.env (eval a X.env) = eval a X.env := by rfl) (hline : (apos.endLine == cpos.line) = true := by rfl) :
    PI X (.Tuple es x1 tpos) (.Call (.Attribute a "items" apos) [] [] cpos) (iItems td) := by
  intro pins s σ H R I h
  refine wpAny_Call_method0_late hbase hline (thn (ha pins s σ H _ I h) fun v s1 ⟨x, H1, I1, r1, d, kvs, e, q1, q⟩ => ?_)
  subst e
  cases r1
  obtain ⟨_, hs, xs, rp, o, ens, ep, ho, hx, hd, he, _⟩ := (show ObjOk X.prog X.w H1 s1.heap d (.dT kvs) from I1.hok _ _ q1)
  have hsz : ens.size = kvs.length := by rw [size_of_entries he]; exact (Paired.length rp).symm
  refine ⟨"dict", "dict.items", PySem.F.plainAttrs_dict, PySem.F.slot_dict_items, PySem.F.type_dict_items, ⟨o, ho, hx.1⟩, fun a e => by cases e; exact ⟨o, ho, hx.2.1⟩, Calls.callWith_builtin rfl (PySem.evalArgs_none ?_)⟩
  refine rawItems_call ho hx hs ?_
  refine rawItems_iter (s := { s1 with heap := s1.heap.push { cls := .type "dict_items", data := .fields #[.ref d] } }) ⟨_, Heap.get?_push_size _ rfl, rfl, rfl⟩ (Heap.get?_push_of_some _ ho) hd ?_
  have kp : ∀ b ob, s1.heap.get? b = some ob → ((s1.heap.push { cls := .type "dict_items", data := .fields #[.ref d] }).push { cls := .type "dict_itemiterator", data := .fields #[.none, .bool false, .ref d, .int 0 0, .int ens.size 0, .int ep 0, .none, .none] }).get? b = some ob := fun b ob e => Heap.get?_push_of_some _ (Heap.get?_push_of_some _ e)
  have I2 := (I1.freeze (by rw [q1]; trivial) q1 ho).kept (t' := s1.toks) kp
  refine ⟨_, [_], _, _, _, rfl, I2, turn_items _ d o kvs ens ep hd hsz, ⟨_, _, Heap.get?_push_size _ rfl⟩, fun c hc => ?_, q o⟩
  rw [List.mem_singleton.mp hc]
  have hge : s1.heap.objs.size ≤ (s1.heap.push { cls := .type "dict_items", data := .fields #[.ref d] }).objs.size := by rw [Heap.size_push]; exact Nat.le_succ _
  exact I1.fpOk hge (by rw [upd_ne (Nat.ne_of_gt (Nat.lt_of_lt_of_le (Heap.lt_size ho) hge))]; exact I1.hok.fresh hge)
end
end L2
set_option Elab.async false
set_option linter.all false
set_option maxRecDepth 100000
set_option maxHeartbeats 4000000
namespace Srt
open PySem PySem.W PyProof.Rows
section
variable {cmp : Nat → Nat → (Bool → Shared → Prop) → Shared → Prop} {n : Nat} {r : Nat → Int} {s : Shared}
noncomputable def Asks (cmp : Nat → Nat → (Bool → Shared → Prop) → Shared → Prop) (n : Nat) (r : Nat → Int) (s : Shared) : Prop := ∀ i j (C : Bool → Shared → Prop), i < n → j < n → C (decide (r i < r j)) s → cmp i j C s
noncomputable def at' (p : Array Nat) (k : Nat) : Nat := p.getD k 0
noncomputable def Pm (n : Nat) (p : Array Nat) : Prop := p.Perm (List.range n).toArray
theorem Pm.size {p : Array Nat} (h : Pm n p) : p.size = n := by rw [Array.Perm.size_eq h]; simp
theorem Pm.lt {p : Array Nat} (h : Pm n p) (k : Nat) (hn : 0 < n) : at' p k < n := by
  unfold at'
  by_cases hk : k < p.size
  · have e : p.getD k 0 = p[k] := by simp [Array.getD, hk]
    rw [e]
    have h1 : p[k] ∈ p.toList := by simp
    have h2 := (Array.perm_iff_toList_perm.mp h).mem_iff.mp h1
    simpa using h2
  · have e : p.getD k 0 = 0 := by simp [Array.getD, hk]
    rw [e]; exact hn
noncomputable def R (r : Nat → Int) (p : Array Nat) (k : Nat) : Int := r (at' p k)
noncomputable def Up (r : Nat → Int) (p : Array Nat) (k : Nat) : Prop := ∀ i j, i ≤ j → j < k → R r p i ≤ R r p j
noncomputable def Dn (r : Nat → Int) (p : Array Nat) (k : Nat) : Prop := ∀ i j, i ≤ j → j < k → R r p j ≤ R r p i
theorem up_succ {p : Array Nat} {k : Nat} (h : Up r p k) (h1 : R r p (k - 1) ≤ R r p k) : Up r p (k + 1) := by
  intro i j hij hj
  by_cases e : j < k
  · exact h i j hij e
  · have : j = k := by (first | lia | omega)
    subst this
    by_cases e2 : i = j
    · subst e2; exact Int.le_refl _
    · exact Int.le_trans (h i (j - 1) (by (first | lia | omega)) (by (first | lia | omega))) h1
theorem dn_succ {p : Array Nat} {k : Nat} (h : Dn r p k) (h1 : R r p k ≤ R r p (k - 1)) : Dn r p (k + 1) := by
  intro i j hij hj
  by_cases e : j < k
  · exact h i j hij e
  · have : j = k := by (first | lia | omega)
    subst this
    by_cases e2 : i = j
    · subst e2; exact Int.le_refl _
    · exact Int.le_trans h1 (h i (j - 1) (by (first | lia | omega)) (by (first | lia | omega)))
theorem at_rev {p : Array Nat} {i j : Nat} (hj : j ≤ p.size) (k : Nat) : at' (kas_rev p i j) k = if i ≤ k ∧ k < j then at' p (i + j - 1 - k) else at' p k := by
  have e := getElem?_mirror_all (xs := p) (i := i) hj k
  have g : ∀ (xs : Array Nat) (k : Nat), at' xs k = (xs[k]?).getD 0 := fun xs k => by unfold at'; simp [Array.getD]; split <;> simp [*]
  rw [g, g, g]
  show (mirror p i j ((j - i) / 2))[k]?.getD 0 = _
  rw [e]
  split <;> rfl
theorem R_rev {p : Array Nat} {i j : Nat} (hj : j ≤ p.size) (k : Nat) : R r (kas_rev p i j) k = if i ≤ k ∧ k < j then R r p (i + j - 1 - k) else R r p k := by
  unfold R; rw [at_rev hj]; split <;> rfl
theorem R_rev_eq {p : Array Nat} {i j : Nat} (hj : j ≤ p.size) (h : ∀ k, i ≤ k → k < j → R r p k = R r p (j - 1)) (k : Nat) : R r (kas_rev p i j) k = R r p k := by
  rw [R_rev hj]
  split
  · rw [h _ (by (first | lia | omega)) (by (first | lia | omega)), h k (by (first | lia | omega)) (by (first | lia | omega))]
  · rfl
theorem Pm.rev {p : Array Nat} (h : Pm n p) (i j : Nat) : Pm n (kas_rev p i j) := Array.Perm.trans (mirror_perm _ _ _ _) h
theorem Pm.bub {p : Array Nat} (h : Pm n p) (k d : Nat) : Pm n (bubble p k d) := Array.Perm.trans (bubble_perm _ _ _) h
theorem R_bub {p : Array Nat} {src d : Nat} (hs : src < p.size) (hd : d ≤ src) (k : Nat) : R r (bubble p src d) k = if k = src - d then R r p src else if src - d < k ∧ k ≤ src then R r p (k - 1) else R r p k := by
  have e := getElem?_bubble (xs := p) hs d hd k
  have g : ∀ (xs : Array Nat) (k : Nat), at' xs k = (xs[k]?).getD 0 := fun xs k => by unfold at'; simp [Array.getD]; split <;> simp [*]
  unfold R
  rw [g, e]
  split
  · rw [g]
  · split <;> rw [g]
theorem asc_ok (ha : Asks cmp n r s) (hn : 0 < n) {p : Array Nat} (hp : Pm n p) : ∀ (f k : Nat) (Q : Nat → Shared → Prop), 1 ≤ k → Up r p k → (∀ m, k ≤ m → m ≤ k + f → Up r p m → (m = k + f ∨ R r p m < R r p (m - 1)) → Q m s) → (kas_asc p f k).kasWp cmp Q s
  | 0, k, Q, h1, hu, h => h k (Nat.le_refl _) (Nat.le_refl _) hu (.inl rfl)
  | f + 1, k, Q, h1, hu, h => by
    show cmp (at' p k) (at' p (k - 1)) (fun b s' => (if b = true then KasT.ret k else kas_asc p f (k + 1)).kasWp cmp Q s') s
    refine ha _ _ _ (hp.lt _ hn) (hp.lt _ hn) ?_
    by_cases c : r (at' p k) < r (at' p (k - 1))
    · rw [decide_eq_true c]
      exact h k (Nat.le_refl _) (by (first | lia | omega)) hu (.inr c)
    · rw [decide_eq_false c]
      refine asc_ok ha hn hp f (k + 1) Q (by (first | lia | omega)) (up_succ hu (Int.not_lt.mp c)) fun m a b u e => h m (by (first | lia | omega)) (by (first | lia | omega)) u ?_
      rcases e with e | e
      · left; (first | lia | omega)
      · exact .inr e
theorem desc_ok (ha : Asks cmp n r s) (hn : 0 < n) : ∀ (f k q : Nat) (p : Array Nat) (Q : Array Nat × Nat × Nat → Shared → Prop), Pm n p → 1 ≤ k → k + f ≤ n → Dn r p k → q + 1 ≤ k → (∀ i, k - (q + 1) ≤ i → i < k → R r p i = R r p (k - 1)) →
    (∀ p' m q', Pm n p' → k ≤ m → m ≤ k + f → Dn r p' m → q' + 1 ≤ m → (∀ i, m - (q' + 1) ≤ i → i < m → R r p' i = R r p' (m - 1)) → Q (p', m, q') s) → (kas_desc f p k q).kasWp cmp Q s
  | 0, k, q, p, Q, hp, h1, hk, hd, hq, he, h => h p k q hp (Nat.le_refl _) (Nat.le_refl _) hd hq he
  | f + 1, k, q, p, Q, hp, h1, hk, hd, hq, he, h => by
    have hsz : k ≤ p.size := by rw [hp.size]; (first | lia | omega)
    show cmp (at' p k) (at' p (k - 1)) (fun c s' => (if c = true then (if q > 0 then kas_desc f (kas_rev p (k - (q + 1)) k) (k + 1) 0 else kas_desc f p (k + 1) 0) else KasT.ask (at' p (k - 1)) (at' p k) fun d => if d = true then KasT.ret (p, k, q) else kas_desc f p (k + 1) (q + 1)).kasWp cmp Q s') s
    refine ha _ _ _ (hp.lt _ hn) (hp.lt _ hn) ?_
    by_cases c : r (at' p k) < r (at' p (k - 1))
    · rw [decide_eq_true c]
      have go : ∀ p', Pm n p' → (∀ i, R r p' i = R r p i) → (kas_desc f p' (k + 1) 0).kasWp cmp Q s := fun p' hp' e => by
        refine desc_ok ha hn f (k + 1) 0 p' Q hp' (by (first | lia | omega)) (by (first | lia | omega)) ?_ (by (first | lia | omega)) ?_ fun p2 m q' a1 a2 a3 a4 a5 a6 => h p2 m q' a1 (by (first | lia | omega)) (by (first | lia | omega)) a4 a5 a6
        · intro i j hij hj
          rw [e, e]
          exact dn_succ hd (Int.le_of_lt c) i j hij hj
        · intro i hi1 hi2
          have : i = k := by (first | lia | omega)
          subst this; rfl
      show (if q > 0 then kas_desc f (kas_rev p (k - (q + 1)) k) (k + 1) 0 else kas_desc f p (k + 1) 0).kasWp cmp Q s
      by_cases hq0 : q > 0
      · rw [if_pos hq0]; exact go _ (hp.rev _ _) (R_rev_eq hsz he)
      · rw [if_neg hq0]; exact go p hp fun _ => rfl
    · rw [decide_eq_false c]
      show cmp (at' p (k - 1)) (at' p k) (fun d s' => (if d = true then KasT.ret (p, k, q) else kas_desc f p (k + 1) (q + 1)).kasWp cmp Q s') s
      refine ha _ _ _ (hp.lt _ hn) (hp.lt _ hn) ?_
      by_cases d : r (at' p (k - 1)) < r (at' p k)
      · rw [decide_eq_true d]
        exact h p k q hp (Nat.le_refl _) (by (first | lia | omega)) hd hq he
      · rw [decide_eq_false d]
        have e : R r p k = R r p (k - 1) := Int.le_antisymm (Int.not_lt.mp d) (Int.not_lt.mp c)
        show (kas_desc f p (k + 1) (q + 1)).kasWp cmp Q s
        refine desc_ok ha hn f (k + 1) (q + 1) p Q hp (by (first | lia | omega)) (by (first | lia | omega)) (dn_succ hd (Int.le_of_eq e)) (by (first | lia | omega)) ?_ fun p2 m q' a1 a2 a3 a4 a5 a6 => h p2 m q' a1 (by (first | lia | omega)) (by (first | lia | omega)) a4 a5 a6
        intro i hi1 hi2
        rw [show k + 1 - 1 = k by (first | lia | omega), e]
        by_cases ik : i = k
        · rw [ik, e]
        · exact he i (by (first | lia | omega)) (by (first | lia | omega))
theorem tail_ok (ha : Asks cmp n r s) (hn : 0 < n) {p : Array Nat} (hp : Pm n p) {k nrem : Nat} {Q : Nat × Array Nat → Shared → Prop} (h1 : 1 ≤ k) (hk : k ≤ nrem) (hz : nrem ≤ n) (hd : Dn r p k)
    (h : ∀ m p', Pm n p' → 1 ≤ m → m ≤ nrem → Up r p' m → Q (m, p') s) : (kas_tail3 k nrem p).kasWp cmp Q s := by
  unfold kas_tail3
  rw [KasT.kasWp_bind]
  have hsz : k ≤ p.size := by rw [hp.size]; (first | lia | omega)
  refine asc_ok ha hn (hp.rev 0 k) _ _ _ h1 ?_ fun m a b u _ => h m _ (hp.rev 0 k) (by (first | lia | omega)) (by (first | lia | omega)) u
  intro i j hij hj
  rw [R_rev hsz, R_rev hsz, if_pos (by (first | lia | omega)), if_pos (by (first | lia | omega))]
  exact hd _ _ (by (first | lia | omega)) (by (first | lia | omega))
theorem part_ok (ha : Asks cmp n r s) (hn : 0 < n) {p : Array Nat} (hp : Pm n p) {k nrem : Nat} {Q : Nat × Array Nat → Shared → Prop} (hk : k + 1 ≤ nrem) (hz : nrem ≤ n) (hd : Dn r p (k + 1))
    (h : ∀ m p', Pm n p' → 1 ≤ m → m ≤ nrem → Up r p' m → Q (m, p') s) : (kas_descPart k nrem p).kasWp cmp Q s := by
  unfold kas_descPart
  rw [KasT.kasWp_bind]
  refine desc_ok ha hn _ (k + 1) 0 p _ hp (by (first | lia | omega)) (by (first | lia | omega)) hd (by (first | lia | omega)) (fun i a b => show R r p i = R r p (k + 1 - 1) by rw [show i = k + 1 - 1 by (first | lia | omega)]) fun p' m q hp' a1 a2 hd' hq he => ?_
  show (if q > 0 then kas_tail3 m nrem (kas_rev p' (m - (q + 1)) m) else kas_tail3 m nrem p').kasWp cmp Q s
  have hsz : m ≤ p'.size := by rw [hp'.size]; (first | lia | omega)
  by_cases hq0 : q > 0
  · rw [if_pos hq0]
    refine tail_ok ha hn (hp'.rev _ _) (by (first | lia | omega)) (by (first | lia | omega)) hz ?_ h
    intro i j hij hj
    rw [R_rev_eq hsz he, R_rev_eq hsz he]
    exact hd' i j hij hj
  · rw [if_neg hq0]
    exact tail_ok ha hn hp' (by (first | lia | omega)) (by (first | lia | omega)) hz hd' h
theorem count_ok (ha : Asks cmp n r s) (hn : 0 < n) {p : Array Nat} (hp : Pm n p) {Q : Nat × Array Nat → Shared → Prop} 
    (h : ∀ m p', Pm n p' → 1 ≤ m → m ≤ n → Up r p' m → Q (m, p') s) : (kas_count n p).kasWp cmp Q s := by
  unfold kas_count
  rw [KasT.kasWp_bind]
  refine asc_ok ha hn hp _ 1 _ (Nat.le_refl _) (fun i j a b => show R r p i ≤ R r p j by rw [show i = j by (first | lia | omega)]; exact Int.le_refl _) fun m a b u e => ?_
  by_cases e1 : m = n
  · rw [if_pos (by simpa using e1)]
    exact h m p hp a (by (first | lia | omega)) u
  · rw [if_neg (by simpa using e1)]
    have hlt : R r p m < R r p (m - 1) := e.resolve_left (by (first | lia | omega))
    have dn1 : ∀ p', Pm n p' → Dn r p' m → (∀ i, R r p' i = R r p i) → Dn r p' (m + 1) := fun p' _ d z => dn_succ d (by rw [z, z]; exact Int.le_of_lt hlt)
    by_cases e2 : m > 1
    · rw [if_pos e2]
      show cmp (at' p 0) (at' p (m - 1)) (fun c s' => (if c = true then KasT.ret (m, p) else kas_descPart m n (kas_rev p 0 m)).kasWp cmp Q s') s
      refine ha _ _ _ (hp.lt _ hn) (hp.lt _ hn) ?_
      by_cases c : r (at' p 0) < r (at' p (m - 1))
      · rw [decide_eq_true c]
        exact h m p hp a (by (first | lia | omega)) u
      · rw [decide_eq_false c]
        have hall : ∀ k, 0 ≤ k → k < m → R r p k = R r p (m - 1) := fun k _ hk => by
          have a1 := u 0 k (by (first | lia | omega)) hk
          have a2 := u k (m - 1) (by (first | lia | omega)) (by (first | lia | omega))
          have a3 : R r p (m - 1) ≤ R r p 0 := Int.not_lt.mp c
          (first | lia | omega)
        have hsz : m ≤ p.size := by rw [hp.size]; (first | lia | omega)
        refine part_ok ha hn (hp.rev 0 m) (by (first | lia | omega)) (Nat.le_refl _) (dn1 _ (hp.rev 0 m) ?_ (R_rev_eq hsz hall)) h
        intro i j hij hj
        rw [R_rev_eq hsz hall, R_rev_eq hsz hall, hall i (by (first | lia | omega)) (by (first | lia | omega)), hall j (by (first | lia | omega)) hj]
        exact Int.le_refl _
    · rw [if_neg e2]
      have : m = 1 := by (first | lia | omega)
      subst this
      refine part_ok ha hn hp (by (first | lia | omega)) (Nat.le_refl _) (dn1 p hp (fun i j hij hj => ?_) fun _ => rfl) h
      have : i = j := by (first | lia | omega)
      subst this; exact Int.le_refl _
theorem place_ok (ha : Asks cmp n r s) (hn : 0 < n) {p : Array Nat} (hp : Pm n p) {k : Nat} (hu : Up r p k) : ∀ (f lo hi : Nat) (Q : Nat → Shared → Prop), lo ≤ hi → hi ≤ k → hi - lo ≤ f → (∀ i, i < lo → R r p i ≤ R r p k) → (∀ i, hi ≤ i → i < k → R r p k < R r p i) →
    (∀ l, l ≤ k → (∀ i, i < l → R r p i ≤ R r p k) → (∀ i, l ≤ i → i < k → R r p k < R r p i) → Q l s) → (kas_place p k f lo hi).kasWp cmp Q s
  | 0, lo, hi, Q, h1, h2, h3, hl, hh, h => h lo (by (first | lia | omega)) hl fun i a b => hh i (by (first | lia | omega)) b
  | f + 1, lo, hi, Q, h1, h2, h3, hl, hh, h => by
    unfold kas_place
    by_cases e : lo ≥ hi
    · rw [if_pos e]
      exact h lo (by (first | lia | omega)) hl fun i a b => hh i (by (first | lia | omega)) b
    · rw [if_neg e]
      show cmp (at' p k) (at' p ((lo + hi) / 2)) (fun c s' => (if c = true then kas_place p k f lo ((lo + hi) / 2) else kas_place p k f ((lo + hi) / 2 + 1) hi).kasWp cmp Q s') s
      refine ha _ _ _ (hp.lt _ hn) (hp.lt _ hn) ?_
      by_cases c : r (at' p k) < r (at' p ((lo + hi) / 2))
      · rw [decide_eq_true c]
        refine place_ok ha hn hp hu f lo ((lo + hi) / 2) Q (by (first | lia | omega)) (by (first | lia | omega)) (by (first | lia | omega)) hl (fun i a b => ?_) h
        exact Int.lt_of_lt_of_le c (hu ((lo + hi) / 2) i a b)
      · rw [decide_eq_false c]
        refine place_ok ha hn hp hu f ((lo + hi) / 2 + 1) hi Q (by (first | lia | omega)) (by (first | lia | omega)) (by (first | lia | omega)) (fun i a => ?_) hh h
        exact Int.le_trans (hu i ((lo + hi) / 2) (by (first | lia | omega)) (by (first | lia | omega))) (Int.not_lt.mp c)
theorem bin_ok (ha : Asks cmp n r s) (hn : 0 < n) : ∀ (f k : Nat) (p : Array Nat) (Q : Array Nat → Shared → Prop), Pm n p → k + f = n → Up r p k → (∀ p', Pm n p' → Up r p' n → Q p' s) → (kas_bin f p k).kasWp cmp Q s
  | 0, k, p, Q, hp, hk, hu, h => h p hp (by rw [← hk]; exact hu)
  | f + 1, k, p, Q, hp, hk, hu, h => by
    show ((kas_place p k k 0 k).bind fun l => kas_bin f (bubble p k (k - l)) (k + 1)).kasWp cmp Q s
    rw [KasT.kasWp_bind]
    refine place_ok ha hn hp hu k 0 k _ (Nat.zero_le _) (Nat.le_refl _) (by (first | lia | omega)) (fun i a => by (first | lia | omega)) (fun i a b => by (first | lia | omega)) fun l hl h1 h2 => ?_
    refine bin_ok ha hn f (k + 1) _ Q (hp.bub _ _) (by (first | lia | omega)) ?_ h
    have hs : k < p.size := by rw [hp.size]; (first | lia | omega)
    intro i j hij hj
    rw [R_bub hs (by (first | lia | omega)), R_bub hs (by (first | lia | omega)), show k - (k - l) = l by (first | lia | omega)]
    by_cases c1 : i = l
    · rw [if_pos c1]
      by_cases c2 : j = l
      · rw [if_pos c2]; exact Int.le_refl _
      · rw [if_neg c2, if_pos (by (first | lia | omega))]
        exact Int.le_of_lt (h2 (j - 1) (by (first | lia | omega)) (by (first | lia | omega)))
    · rw [if_neg c1]
      by_cases c2 : j = l
      · rw [if_pos c2, if_neg (by (first | lia | omega))]
        exact h1 i (by (first | lia | omega))
      · rw [if_neg c2]
        by_cases c3 : l < i ∧ i ≤ k
        · rw [if_pos c3, if_pos (by (first | lia | omega))]
          exact hu _ _ (by (first | lia | omega)) (by (first | lia | omega))
        · rw [if_neg c3]
          by_cases c4 : l < j ∧ j ≤ k
          · rw [if_pos c4]
            exact hu _ _ (by (first | lia | omega)) (by (first | lia | omega))
          · rw [if_neg c4]
            exact hu _ _ hij (by (first | lia | omega))
theorem sort_ok (ha : Asks cmp n r s) (h2 : 2 ≤ n) {Q : Array Nat → Shared → Prop} (h : ∀ p, Pm n p → Up r p n → Q p s) : (kas_sort n).kasWp cmp Q s := by
  unfold kas_sort
  rw [KasT.kasWp_bind]
  refine count_ok ha (by (first | lia | omega)) (Array.Perm.refl _) fun m p hp h1 hm u => ?_
  show (if m < n then kas_bin (n - max m 1) p (max m 1) else KasT.ret p).kasWp cmp Q s
  by_cases e : m < n
  · rw [if_pos e]
    have : max m 1 = m := by (first | lia | omega)
    rw [this]
    exact bin_ok ha (by (first | lia | omega)) _ _ p Q hp (by (first | lia | omega)) u h
  · rw [if_neg e]
    have : m = n := by (first | lia | omega)
    subst this
    exact h p hp u
end
end Srt
set_option Elab.async false
set_option linter.all false
set_option maxRecDepth 100000
set_option maxHeartbeats 4000000
namespace Srt
open PySem PySem.W PyProof.Rows
section
variable {prog : Program} {w : World} {A : Around} {E : Value → Shared → Prop} {s : Shared} {κ : SortKind} {r : Nat → Int}
noncomputable def But (a : Addr) (h h' : Heap) : Prop := ∀ b o, b ≠ a → h.get? b = some o → h'.get? b = some o
theorem pm_range (n : Nat) : Pm n (List.toArray (List.range n)) := Array.Perm.refl _
theorem up_short {p : Array Nat} {n : Nat} (h : n < 2) : Up r p n := fun i j hij hj => by
  have : i = j := by (first | lia | omega)
  subst this; exact Int.le_refl _
theorem range_map (vs : List Value) : (List.toArray (List.range vs.length)).toList.map (fun i => vs.getD i Value.none) = vs := by
  refine List.ext_getElem (by simp) fun i h1 h2 => ?_
  simp [h2]
theorem sort_raw {a : Addr} {vs : List Value} {n : Nat} {P : PySem.Fin → Shared → Prop} (ho : s.heap.get? a = some (seqObj "list" vs.toArray n)) (h64 : vs.length < 64)
    (hk : 2 ≤ vs.length → ∀ h', But a s.heap h' → (∀ Q : SortKind → Shared → Prop, Q κ { s with heap := h' } → wpAny (model prog w) A (keyKind' vs.toArray) Q E { s with heap := h' }) ∧ Asks (kas_ask prog w A κ vs) vs.length r { s with heap := h' })
    (h : ∀ h' c p, Pm vs.length p → Up r p vs.length → h'.get? a = some (seqObj "list" (p.toList.map fun i => vs.getD i Value.none).toArray c) → But a s.heap h' → P (.done (.ret .none)) { s with heap := h' }) :
    wpAny (model prog w) A (Builtin.«list.sort» ⟨[.ref a], []⟩) P E s := by
  have la := Heap.lt_size ho
  obtain ⟨c1, o1⟩ : ∃ c1, (s.heap.update a (Obj.mapSeq fun _ => (#[] : Array Value))).get? a = some (seqObj "list" #[] c1) := ⟨_, get?_update_seq ho fun _ => #[]⟩
  have b1 : But a s.heap (s.heap.update a (Obj.mapSeq fun _ => (#[] : Array Value))) := fun b o hb e => by rw [Heap.get?_update_ne _ _ _ _ hb]; exact e
  generalize hg1 : s.heap.update a (Obj.mapSeq fun _ => (#[] : Array Value)) = g1 at o1 b1
  have o3 : ((g1.push (seqObj "tuple" vs.toArray 0)).push (seqObj "list" #[] 0)).get? a = some (seqObj "list" #[] c1) := Heap.get?_push_of_some _ (Heap.get?_push_of_some _ o1)
  have b3 : But a s.heap ((g1.push (seqObj "tuple" vs.toArray 0)).push (seqObj "list" #[] 0)) := fun b o hb e => Heap.get?_push_of_some _ (Heap.get?_push_of_some _ (b1 b o hb e))
  rw [list_sort_plain]
  refine wpAny_bind (listItems_at ho rfl ?_)
  refine wpAny_bind (listUpdate_at ho rfl ?_ (by rw [List.size_toArray, sizeLine_eq]; (first | lia | omega)) (Nat.zero_le _))
  rw [hg1]
  refine wpAny_bind (seqEpoch_at o1 rfl ?_)
  refine wpAny_bind (wpAny_newTuple ?_ (by show vs.length ≤ _; rw [sizeLine_eq]; (first | lia | omega)))
  refine wpAny_bind (wpAny_newList ?_ (Nat.zero_le _))
  refine wpAny_holding ?_
  show wpAny (model prog w) A _ P E { s with heap := (g1.push (seqObj "tuple" vs.toArray 0)).push (seqObj "list" #[] 0) }
  generalize (g1.push (seqObj "tuple" vs.toArray 0)).push (seqObj "list" #[] 0) = g3 at o3 b3
  dsimp only
  have fin : ∀ (st : SortSt) (p : Array Nat), Pm vs.length p → Up r p vs.length → (arrOf st).map (·.2) = (p.toList.map fun i => vs.getD i Value.none).toArray → failedOf st = none →
      wpAny (model prog w) A (do
        let touched := (← seqEpoch a) != c1
        Builtin.List.listUpdate (.ref a) fun _ => (arrOf st).map (·.2)
        if let some e := failedOf st then rule "list.sort.comparison-raised"; throw e
        if touched then rule "list.sort.modified"; raiseError "ValueError" "list modified during sort"
        ret .none) P E { s with heap := g3 } := fun st p hp hu hout hf => by
    rw [hout, hf]
    have hz : (p.toList.map fun i => vs.getD i Value.none).toArray.size = vs.length := by rw [List.size_toArray, List.length_map, Array.length_toList, hp.size]
    obtain ⟨c4, o4⟩ : ∃ c4, (g3.update a (Obj.mapSeq fun _ => (p.toList.map fun i => vs.getD i Value.none).toArray)).get? a = some (seqObj "list" (p.toList.map fun i => vs.getD i Value.none).toArray c4) := ⟨_, get?_update_seq o3 fun _ => (p.toList.map fun i => vs.getD i Value.none).toArray⟩
    refine wpAny_bind (seqEpoch_at o3 rfl ?_)
    refine wpAny_bind (listUpdate_at o3 rfl ?_ (Nat.zero_le _) (Nat.le_trans (Nat.le_of_eq hz) (by rw [sizeLine_eq]; (first | lia | omega))))
    simp only [bne_self_eq_false, Bool.false_eq_true, if_false]
    exact wpAny_pure (h _ c4 p hp hu o4 fun b o hb e => by rw [Heap.get?_update_ne _ _ _ _ hb]; exact b3 b o hb e)
  by_cases h2 : vs.toArray.size < 2
  · rw [if_pos h2, if_pos h2]
    refine wpAny_bind (wpAny_pure ?_)
    rw [StateT.run_pure]
    refine wpAny_bind (wpAny_pure ?_)
    refine fin _ _ (pm_range _) (up_short (by rw [List.size_toArray] at h2; exact h2)) ?_ rfl
    rw [range_map]
    show (vs.toArray.zip vs.toArray).map (·.2) = _
    apply Array.toList_inj.mp
    simp [List.map_snd_zip]
  · rw [if_neg h2, if_neg h2]
    rw [List.size_toArray] at h2
    obtain ⟨kk, ask⟩ := hk (by (first | lia | omega)) g3 b3
    refine wpAny_bind (kk _ ?_)
    refine wpAny_bind (wpAny_mono (kat_run (Q := fun st' s' => s' = { s with heap := g3 } ∧ ∃ p, Pm vs.length p ∧ Up r p vs.length ∧ arrOf st' = p.map (kas_item (vs.toArray.zip vs.toArray)) ∧ failedOf st' = none) (G := fun p s' => s' = { s with heap := g3 } ∧ Pm vs.length p ∧ Up r p vs.length)
      rfl (by (first | lia | omega)) h64 (fun p st' s' a1 a2 a3 a4 => ⟨a4.1, p, a4.2.1, a4.2.2, a2, a3⟩) (sort_ok ask (by (first | lia | omega)) fun p hp hu => ⟨rfl, hp, hu⟩)) ?_ fun _ _ e => e)
    rintro ⟨⟨⟩, st'⟩ s' ⟨rfl, p, hp, hu, har, hf⟩
    exact fin st' p hp hu (kat_snds rfl har) hf
theorem sorted_raw {x : Value} {vs : List Value} {Q : Value → Shared → Prop} (h64 : vs.length < 64)
    (hc : ∀ Q' : List Value → Shared → Prop, (∀ h1 tk, (∀ b o, s.heap.get? b = some o → h1.get? b = some o) → s.heap.objs.size ≤ h1.objs.size → Q' vs { s with heap := h1, toks := tk }) → wpAny (model prog w) A.in1 (collect x) Q' E s)
    (hr : ∀ h1 tk, (∀ b o, s.heap.get? b = some o → h1.get? b = some o) → 2 ≤ vs.length → (∀ Q : SortKind → Shared → Prop, Q κ { s with heap := h1, toks := tk } → wpAny (model prog w) A.in1.in1 (keyKind' vs.toArray) Q E { s with heap := h1, toks := tk }) ∧ Asks (kas_ask prog w A.in1.in1 κ vs) vs.length r { s with heap := h1, toks := tk })
    (h : ∀ D h' tk c p, s.heap.objs.size ≤ D → Pm vs.length p → Up r p vs.length → h'.get? D = some (seqObj "list" (p.toList.map fun i => vs.getD i Value.none).toArray c) → (∀ b o, s.heap.get? b = some o → h'.get? b = some o) → Q (.ref D) { s with heap := h', toks := tk }) :
    wpAny (model prog w) A (call (.builtin "sorted") [x]) Q E s := by
  refine Calls.call_function_entry kind_sorted plain_sorted entry_sorted (args_sorted1 _) ?_
  unfold Builtin.«sorted»
  refine wpAny_bind (m := checkCount "sorted" 1 1 _) (wpAny_pure ?_)
  refine wpAny_bind (hc _ fun h1 tk k1 z1 => ?_)
  refine wpAny_bind (wpAny_newList ?_ (by rw [sizeLine_eq]; (first | lia | omega)))
  have oL : (h1.push (seqObj "list" vs.toArray 0)).get? h1.objs.size = some (seqObj "list" vs.toArray 0) := Heap.get?_push_size _ rfl
  have kL : ∀ b o, s.heap.get? b = some o → (h1.push (seqObj "list" vs.toArray 0)).get? b = some o ∧ b ≠ h1.objs.size := fun b o e => ⟨Heap.get?_push_of_some _ (k1 b o e), Nat.ne_of_lt (Nat.lt_of_lt_of_le (Heap.lt_size e) z1)⟩
  refine wpAny_bind (wpAny_holding (wpAny_call_entry slot_list_sort ⟨_, oL, rfl⟩ entry_list_sort ?_ (args_list_sort _)))
  refine sort_raw (κ := κ) (r := r) oL h64 (fun h2 h' b' => hr h' tk (fun b o e => b' b o (kL b o e).2 (kL b o e).1) h2) fun h' c p hp hu o' b' => ⟨_, rfl, ?_⟩
  exact wpAny_pure ⟨_, rfl, h h1.objs.size h' tk c p z1 hp hu o' fun b o e => b' b o (kL b o e).2 (kL b o e).1⟩
end
end Srt
set_option Elab.async false
set_option linter.all false
set_option maxRecDepth 100000
set_option maxHeartbeats 4000000
namespace Srt
theorem lex_irr : ∀ xs : List Int, HT.lexLt xs xs = false
  | [] => rfl
  | x :: xs => by rw [HT.lexLt_cons, if_pos rfl]; exact lex_irr xs
theorem lex_tr : ∀ {xs ys zs : List Int}, HT.lexLt xs ys = true → HT.lexLt ys zs = true → HT.lexLt xs zs = true
  | [], [], _, h, _ => by cases h
  | [], _ :: _, [], _, h => by cases h
  | [], _ :: _, _ :: _, _, _ => rfl
  | _ :: _, [], _, h, _ => by cases h
  | _ :: _, _ :: _, [], _, h => by cases h
  | x :: xs, y :: ys, z :: zs, h1, h2 => by
    rw [HT.lexLt_cons] at h1 h2 ⊢
    by_cases e1 : x = y
    · subst e1
      rw [if_pos rfl] at h1
      by_cases e2 : x = z
      · subst e2
        rw [if_pos rfl] at h2 ⊢
        exact lex_tr h1 h2
      · rw [if_neg e2] at h2 ⊢; exact h2
    · rw [if_neg e1, decide_eq_true_eq] at h1
      by_cases e2 : y = z
      · subst e2
        rw [if_neg e1, decide_eq_true_eq]; exact h1
      · rw [if_neg e2, decide_eq_true_eq] at h2
        rw [if_neg (by (first | lia | omega)), decide_eq_true_eq]; (first | lia | omega)
theorem lex_tot : ∀ {xs ys : List Int}, HT.lexLt xs ys = false → HT.lexLt ys xs = false → xs = ys
  | [], [], _, _ => rfl
  | [], _ :: _, h, _ => by cases h
  | _ :: _, [], _, h => by cases h
  | x :: xs, y :: ys, h1, h2 => by
    rw [HT.lexLt_cons] at h1 h2
    by_cases e : x = y
    · subst e
      rw [if_pos rfl] at h1 h2
      rw [lex_tot h1 h2]
    · rw [if_neg e, decide_eq_false_iff_not] at h1
      rw [if_neg (fun z => e z.symm), decide_eq_false_iff_not] at h2
      (first | lia | omega)
noncomputable def rank (rows : List (List Int)) (x : List Int) : Int := (rows.countP fun z => HT.lexLt z x : Nat)
theorem count_le {α : Type} {p q : α → Bool} : ∀ {l : List α}, (∀ a ∈ l, p a = true → q a = true) → l.countP p ≤ l.countP q
  | [], _ => by simp
  | a :: l, h => by
    have ih := count_le (p := p) (q := q) (l := l) fun b hb => h b (List.mem_cons_of_mem _ hb)
    rw [List.countP_cons, List.countP_cons]
    have := h a List.mem_cons_self
    cases hp : p a <;> cases hq : q a <;> simp_all <;> (first | lia | omega)
theorem count_lt {α : Type} {p q : α → Bool} {x : α} : ∀ {l : List α}, (∀ a ∈ l, p a = true → q a = true) → x ∈ l → p x = false → q x = true → l.countP p < l.countP q
  | [], _, hx, _, _ => by cases hx
  | a :: l, h, hx, hp, hq => by
    have hl : ∀ b ∈ l, p b = true → q b = true := fun b hb => h b (List.mem_cons_of_mem _ hb)
    rw [List.countP_cons, List.countP_cons]
    rcases List.mem_cons.mp hx with e | e
    · subst e
      have := count_le hl
      rw [hp, hq]
      simp
      (first | lia | omega)
    · have ih := count_lt hl e hp hq
      have := h a List.mem_cons_self
      cases hp' : p a <;> cases hq' : q a <;> simp_all <;> (first | lia | omega)
theorem rank_lt {rows : List (List Int)} {x y : List Int} (hx : x ∈ rows) (hy : y ∈ rows) : decide (rank rows x < rank rows y) = HT.lexLt x y := by
  unfold rank
  cases h : HT.lexLt x y with
  | true =>
    rw [decide_eq_true_eq]
    have := count_lt (l := rows) (p := fun z => HT.lexLt z x) (q := fun z => HT.lexLt z y) (fun a _ ha => lex_tr ha h) hx (lex_irr x) h
    (first | lia | omega)
  | false =>
    rw [decide_eq_false_iff_not]
    have : rows.countP (fun z => HT.lexLt z y) ≤ rows.countP (fun z => HT.lexLt z x) := by
      refine count_le fun a _ ha => ?_
      cases h2 : HT.lexLt y x with
      | true => exact lex_tr ha h2
      | false => rw [lex_tot h h2]; exact ha
    (first | lia | omega)
end Srt
namespace L2
open PySem PySem.Spec PyProof.Rows Srt
section
variable {prog : Program} {w : World} {A : Around}
theorem lex_same {C : Bool → Shared → Prop} {s : Shared} {b : Bool} : ∀ {xs ys : List Int} {us ws : List Value} (i : Nat), Vals (xs.map V.int) us → Vals (ys.map V.int) ws → C (HT.lexLt xs ys) s →
    PySem.W.KatLex prog w A b (decide (xs.length < ys.length)) C (us.zip ws) i s
  | [], [], _, _, i, .nil, .nil, h => by
    show C (decide (0 < 0)) s
    exact h
  | [], y :: ys, _, _, i, .nil, .cons _ _, h => by
    show C (decide (0 < ys.length + 1)) s
    rw [decide_eq_true (by (first | lia | omega))]; exact h
  | x :: xs, [], _, _, i, .cons _ _, .nil, h => by
    show C (decide (xs.length + 1 < 0)) s
    rw [decide_eq_false (by (first | lia | omega))]; exact h
  | x :: xs, y :: ys, _, _, i, .cons r1 t1, .cons r2 t2, h => by
    obtain ⟨t, rfl⟩ := r1
    obtain ⟨u, rfl⟩ := r2
    rw [HT.lexLt_cons] at h
    refine PySem.W.kat_cons (wpAny_eqBool_int ?_)
    by_cases e : x = y
    · subst e
      rw [if_pos rfl] at h
      rw [show (x == x) = true by simp]
      refine PySem.W.kat_yes ?_
      have := lex_same (b := b) (i + 1) t1 t2 h
      rw [show decide ((x :: xs).length < (x :: ys).length) = decide (xs.length < ys.length) by simp]
      exact this
    · rw [if_neg e] at h
      rw [show (x == y) = false by simpa using e]
      refine PySem.W.kat_no ?_
      cases b && i == 0 with
      | true => exact oneLt_int h
      | false => exact PySem.W.kat_one _ _ (PyProof.Rows.lt_int (show PySem.W.BoolBack C (Value.bool (decide (x < y))) s from h))
end
theorem refs_of : ∀ {as : List Addr} {us : List Value}, Vals (as.map V.ref) us → us = as.map Value.ref
  | [], _, .nil => rfl
  | a :: as, _, .cons r t => by rw [refs_of t]; cases (show _ = Value.ref a from r); rfl
theorem vals_fst : ∀ zs : List (Addr × List Int), Vals (zs.map fun z => V.ref z.1) (zs.map fun z => Value.ref z.1)
  | [] => .nil
  | z :: zs => .cons rfl (vals_fst zs)
section
variable {X : Cx}
noncomputable def Sorted2 (zs zs' : List (Addr × List Int)) : Prop := zs'.Perm zs ∧ zs'.Pairwise fun a b => HT.lexLt b.2 a.2 = false
theorem sorted_out {zs : List (Addr × List Int)} {p : Array Nat} (hp : Pm zs.length p) (hu : Up (fun i => rank (zs.map (·.2)) ((zs.getD i (0, [])).2)) p zs.length) : Sorted2 zs (p.toList.map fun i => zs.getD i (0, [])) := by
  have hperm := Array.perm_iff_toList_perm.mp hp
  constructor
  · have h1 := hperm.map fun i => zs.getD i (0, [])
    refine h1.trans (List.Perm.of_eq ?_)
    refine List.ext_getElem (by simp) fun i a b => ?_
    simp [b]
  · rw [List.pairwise_map, List.pairwise_iff_getElem]
    intro i j hi hj hij
    have hsz : p.toList.length = zs.length := by rw [Array.length_toList, hp.size]
    have h1 := hu i j (by (first | lia | omega)) (by (first | lia | omega))
    have mem : ∀ k (hk : k < p.toList.length), (zs.getD (p.toList[k]'hk) (0, [])).2 ∈ zs.map (·.2) := fun k hk => by
      have : p.toList[k] < zs.length := by
        have := hperm.mem_iff.mp (List.getElem_mem hk)
        simpa using this
      have e : zs.getD p.toList[k] (0, []) = zs[p.toList[k]] := by rw [List.getD_eq_getElem?_getD, List.getElem?_eq_getElem this]; rfl
      rw [e]
      exact List.mem_map_of_mem (List.getElem_mem _)
    have e : ∀ k (hk : k < p.toList.length), at' p k = p.toList[k] := fun k hk => by
      have : k < p.size := by simpa using hk
      unfold at'; simp [Array.getD, this]
    unfold R at h1
    rw [e i hi, e j hj] at h1
    rw [← rank_lt (mem j hj) (mem i hi), decide_eq_false_iff_not]
    exact Int.not_lt.mpr h1
theorem sorted_gen {pins : List (Addr × Obj)} {s : Shared} {σ : St} {H : Hp} {Q : VK} {p : Addr} {zs : List (Addr × List Int)} (I : Inv X pins σ H s) (hz : ∀ z ∈ zs, H z.1 = some (.tup (z.2.map V.int)) ∧ z.2 ≠ []) (h64 : zs.length < 64)
    (hcol : ∀ Q' : List Value → Shared → Prop, (∀ h1 tk, (∀ b o, s.heap.get? b = some o → h1.get? b = some o) → s.heap.objs.size ≤ h1.objs.size → Q' (zs.map fun z => Value.ref z.1) { s with heap := h1, toks := tk }) → wpAny (model X.prog X.w) X.A.in1 (collect (.ref p)) Q' X.xe s)
    (q : ∀ l zs', H l = none → Sorted2 zs zs' → Q (.ref l) (upd H l (.lst (zs'.map fun z => V.ref z.1)))) : wpAny (model X.prog X.w) X.A (call (.builtin "sorted") [.ref p]) (EP X pins σ Q) X.xe s := by
  have tup : ∀ (h' : Heap), (∀ b o, s.heap.get? b = some o → h'.get? b = some o) → ∀ z ∈ zs, ∃ it : List Value, Vals (z.2.map V.int) it ∧ ∃ o n, h'.get? z.1 = some o ∧ o.cls = .type "tuple" ∧ o.data = .seq it.toArray n := fun h' k z hm => by
    obtain ⟨_, it, rt, o, ho, hc, n, hd⟩ := (show ObjOk X.prog X.w H s.heap z.1 (.tup _) from I.hok _ _ (hz z hm).1)
    exact ⟨it, rt, o, n, k _ _ ho, hc, hd⟩
  have gd : ∀ i, i < zs.length → (zs.map fun z => Value.ref z.1).getD i Value.none = .ref (zs.getD i (0, [])).1 ∧ zs.getD i (0, []) ∈ zs := fun i hi => by
    constructor
    · simp [hi]
    · rw [show zs.getD i (0, []) = zs[i] by simp [hi]]; exact List.getElem_mem _
  refine sorted_raw (κ := tuples' true) (r := fun i => rank (zs.map (·.2)) ((zs.getD i (0, [])).2)) (vs := zs.map fun z => Value.ref z.1) (by rw [List.length_map]; exact h64) (fun Q' k => ?_) (fun h1 tk k1 h2 => ⟨fun Q2 q2 => ?_, fun i j C hi hj hC => ?_⟩) fun D h' tk c pp hD hp hu o' k' => ?_
  · exact hcol Q' k
  · have key : ∀ ys : List (Addr × List Int), (∀ z ∈ ys, z ∈ zs) → ∃ fs : List Value, PySem.W.KatTups h1 (ys.map fun z => Value.ref z.1) fs ∧ fs.length = ys.length ∧ ∀ v ∈ fs, ∃ n t, v = .int n t := fun ys => by
      induction ys with
      | nil => intro _; exact ⟨[], trivial, rfl, fun v hv => by cases hv⟩
      | cons z ys ih =>
        intro hm
        obtain ⟨fs, g1, g2, g3⟩ := ih fun y hy => hm y (List.mem_cons_of_mem _ hy)
        obtain ⟨it, rt, o, n, ho, hc, hd⟩ := tup h1 k1 z (hm z List.mem_cons_self)
        obtain ⟨x, xs', ex⟩ := List.exists_cons_of_ne_nil (hz z (hm z List.mem_cons_self)).2
        rw [ex] at rt
        cases rt with
        | cons r0 t0 =>
          obtain ⟨t, rfl⟩ := r0
          exact ⟨.int x t :: fs, PySem.W.KatTups.cons ho hc hd (by simp) g1, by simp [g2], fun v hv => by
            rcases List.mem_cons.mp hv with e | e
            · exact ⟨x, t, e⟩
            · exact g3 v e⟩
    obtain ⟨fs, g1, g2, g3⟩ := key zs fun z hz => hz
    rw [List.length_map] at h2
    refine PySem.W.kat_kind (T := .type "int") (s := { s with heap := h1, toks := tk }) g1 (by (first | lia | omega)) (fun v hv => ?_) rfl q2
    obtain ⟨n, t, rfl⟩ := g3 v hv
    exact PySem.W.Looks.of_pure rfl
  · rw [List.length_map] at hi hj
    obtain ⟨ei, mi⟩ := gd i hi
    obtain ⟨ej, mj⟩ := gd j hj
    show wpAny _ _ (keyLt' (tuples' true) ((zs.map fun z => Value.ref z.1).getD i Value.none) ((zs.map fun z => Value.ref z.1).getD j Value.none)) C (fun _ _ => False) _
    rw [ei, ej]
    obtain ⟨it, rt, o, n, ho, hc, hd⟩ := tup h1 k1 _ mi
    obtain ⟨it2, rt2, o2, n2, ho2, hc2, hd2⟩ := tup h1 k1 _ mj
    rw [rank_lt (List.mem_map_of_mem mi) (List.mem_map_of_mem mj)] at hC
    refine PySem.W.kat_lt (s := { s with heap := h1, toks := tk }) ho hd ho2 hd2 ?_
    have l1 := rt.length
    have l2 := rt2.length
    rw [List.length_map] at l1 l2
    rw [List.size_toArray, List.size_toArray, ← l1, ← l2]
    exact lex_same 0 rt rt2 hC
  · rw [List.length_map] at hp hu
    have so := sorted_out hp hu
    have eo : (pp.toList.map fun i => (zs.map fun z => Value.ref z.1).getD i Value.none) = (pp.toList.map fun i => zs.getD i (0, [])).map fun z => Value.ref z.1 := by
      rw [List.map_map]
      refine List.map_congr_left fun i hi => ?_
      have : i < zs.length := by
        have := (Array.perm_iff_toList_perm.mp hp).mem_iff.mp hi
        simpa using this
      exact (gd i this).1
    rw [eo] at o'
    have hlen := so.1.length_eq
    refine ⟨.ref D, _, I.laid (t' := tk) (o := .lst ((pp.toList.map fun i => zs.getD i (0, [])).map fun z => V.ref z.1)) k' hD ⟨by rw [List.length_map, hlen, sizeLine_eq]; (first | lia | omega), _, c, ?_, o'⟩, rfl, q _ _ (I.hok.fresh hD) so⟩
    exact vals_fst _
theorem call_sortedT : CallR X (.builtin "sorted") (fun xs H Q => ∃ (p : Addr) (zs : List (Addr × List Int)), xs = [.ref p] ∧ SqL X.K H p (zs.map fun z => V.ref z.1) ∧ (∀ z ∈ zs, H z.1 = some (.tup (z.2.map V.int)) ∧ z.2 ≠ []) ∧ zs.length < 64 ∧
    ∀ l zs', H l = none → Sorted2 zs zs' → Q (.ref l) (upd H l (.lst (zs'.map fun z => V.ref z.1)))) := by
  intro pins s σ H xs us Q I r h
  obtain ⟨p, zs, rfl, hq, hz, h64, q⟩ := h
  obtain ⟨u, rfl, rx⟩ := vals1 r
  cases rx
  obtain ⟨its, rv, pl, _⟩ := I.list hq
  have hits : its = zs.map fun z => Value.ref z.1 := by
    have := refs_of (as := zs.map (·.1)) (us := its) (by rw [List.map_map]; exact rv)
    rw [this, List.map_map]; rfl
  subst hits
  have isl := pl.isList
  refine sorted_gen I hz h64 (fun Q' k => ?_) q
  refine collect_list isl ?_ (by rw [List.length_map, sizeLine_eq]; (first | lia | omega))
  refine k _ s.toks (fun b o e => ?_) (by rw [Heap.size_update, size_push']; exact Nat.le_succ _)
  rw [Heap.get?_update_ne _ _ _ _ (Nat.ne_of_lt (Heap.lt_size e))]
  exact Heap.get?_push_of_some _ e
end
end L2
set_option Elab.async false
set_option linter.all false
set_option maxRecDepth 100000
set_option maxHeartbeats 4000000
namespace L2
open PySem PySem.Spec PyProof.Rows Srt
theorem collect_tup {prog : Program} {w : World} {A : Around} {E : Value → Shared → Prop} {s : Shared} {l : Addr} {vs : List Value} {Q : List Value → Shared → Prop} (hl : IsTup s.heap l vs.toArray) (hz : vs.length ≤ sizeLine)
    (h : Q vs { s with heap := (s.heap.push (seqObj "list" #[] 0)).update s.heap.objs.size (Obj.mapSeq (· ++ vs.toArray)) }) : wpAny (model prog w) A (collect (.ref l)) Q E s := by
  obtain ⟨o, ho, hc, n, hd⟩ := id hl
  unfold collect
  refine wpAny_bind (wpAny_runValue (codeAny_builtin entry_proto_collect' ?_))
  show wpAny _ _ (newList [] >>= fun v => again (.builtin "list.__iadd__" ⟨[v, .ref l], []⟩)) _ _ s
  refine wpAny_bind (wpAny_newList (wpAny_pure ⟨Code.quiet_builtin _ (by decide +kernel), codeAny_builtin entry_list_iadd' ?_⟩))
  rw [Around.under_plainId (by decide +kernel)]
  show wpAny _ _ (Builtin.List.listExtendWith (.ref s.heap.objs.size) (.ref l) (.ref s.heap.objs.size)) _ _ _
  refine wpAny_extend_seq (R := fun r s' => match r with
    | .ok (.ret v) => wpAny (model prog w) A (match v with
      | .ref a => (do
        let o ← load a
        match o.data with
        | .seq xs _ => pure xs.toList
        | _ => unsupported "internal:collect")
      | _ => unsupported "internal:collect") Q E s'
    | .ok _ => False
    | .error e => E e s') (s := { s with heap := s.heap.push (seqObj "list" #[] 0) }) s.heap.objs.size l _ 0 (.inr rfl) (Heap.get?_push_size _ rfl) (Heap.get?_push_of_some _ ho) hc hd ?_ (by rw [List.size_toArray]; exact hz)
  refine wpAny_bind (wpAny_load (get?_update_seq (Heap.get?_push_size _ rfl) _) ?_)
  have e : ((#[] : Array Value) ++ vs.toArray).toList = vs := by simp
  refine wpAny_pure (a := ((#[] : Array Value) ++ vs.toArray).toList) ?_
  rw [e]; exact h
section
variable {X : Cx}
theorem call_sortedU : CallR X (.builtin "sorted") (fun xs H Q => ∃ (p : Addr) (zs : List (Addr × List Int)), xs = [.ref p] ∧ SqT X.K H p (zs.map fun z => V.ref z.1) ∧ (∀ z ∈ zs, H z.1 = some (.tup (z.2.map V.int)) ∧ z.2 ≠ []) ∧ zs.length < 64 ∧
    ∀ l zs', H l = none → Sorted2 zs zs' → Q (.ref l) (upd H l (.lst (zs'.map fun z => V.ref z.1)))) := by
  intro pins s σ H xs us Q I r h
  obtain ⟨p, zs, rfl, hq, hz, h64, q⟩ := h
  obtain ⟨u, rfl, rx⟩ := vals1 r
  cases rx
  obtain ⟨its, rv, pl, _⟩ := I.tuple hq
  have hits : its = zs.map fun z => Value.ref z.1 := by
    have := refs_of (as := zs.map (·.1)) (us := its) (by rw [List.map_map]; exact rv)
    rw [this, List.map_map]; rfl
  subst hits
  refine sorted_gen I hz h64 (fun Q' k => ?_) q
  refine collect_tup pl (by rw [List.length_map, sizeLine_eq]; (first | lia | omega)) ?_
  refine k _ s.toks (fun b o e => ?_) (by rw [Heap.size_update, size_push']; exact Nat.le_succ _)
  rw [Heap.get?_update_ne _ _ _ _ (Nat.ne_of_lt (Heap.lt_size e))]
  exact Heap.get?_push_of_some _ e
end
end L2
set_option Elab.async false
set_option linter.all false
set_option maxRecDepth 100000
set_option maxHeartbeats 4000000
namespace Set4
open PySem PyProof.Rows
noncomputable def L (b0 b1 b2 b3 : Bool) : List Nat := (cond b0 [0] []) ++ ((cond b1 [1] []) ++ ((cond b2 [2] []) ++ (cond b3 [3] [])))
noncomputable def mem4 (S : Nat → Bool) : List Nat := L (S 0) (S 1) (S 2) (S 3)
noncomputable def putF (f : Nat → Value) (k : Nat) (x : Value) : Nat → Value := fun j => if j = k then x else f j
theorem L_len (b0 b1 b2 b3 : Bool) : (L b0 b1 b2 b3).length ≤ 4 := by cases b0 <;> cases b1 <;> cases b2 <;> cases b3 <;> decide
theorem mem_c {b : Bool} {i k : Nat} : k ∈ cond b [i] [] ↔ b = true ∧ k = i := by cases b <;> simp
theorem mem_mem4 {S : Nat → Bool} {k : Nat} : k ∈ mem4 S ↔ k < 4 ∧ S k = true := by
  unfold mem4 L
  rw [List.mem_append, List.mem_append, List.mem_append, mem_c, mem_c, mem_c, mem_c]
  constructor
  · rintro (⟨h, rfl⟩ | ⟨h, rfl⟩ | ⟨h, rfl⟩ | ⟨h, rfl⟩) <;> exact ⟨by decide, h⟩
  · rintro ⟨hk, hs⟩
    match k, hk with
    | 0, _ => exact .inl ⟨hs, rfl⟩
    | 1, _ => exact .inr (.inl ⟨hs, rfl⟩)
    | 2, _ => exact .inr (.inr (.inl ⟨hs, rfl⟩))
    | 3, _ => exact .inr (.inr (.inr ⟨hs, rfl⟩))
section
variable {prog : Program} {w : World} {A : Around} {E : Value → Shared → Prop} {s : Shared}
end
end Set4
set_option Elab.async false
set_option linter.all false
set_option maxRecDepth 100000
set_option maxHeartbeats 4000000
namespace L2
open PySem PySem.Spec PyProof.Rows
noncomputable abbrev C3 := Int × Int × Int
noncomputable def ClP (H : Hp) (bs : List Addr) (cl : List C3) : Prop := Paired (fun b (c : C3) => H b = some (.tup [.int c.1, .int c.2.1, .int c.2.2])) bs cl
theorem ClP.ext {H H' : Hp} {bs : List Addr} {cl : List C3} (h : ClP H bs cl) (e : Ext H H') : ClP H' bs cl := Paired.mapP h fun _ _ z => e.tup _ _ z
theorem ClP.get {H : Hp} : ∀ {bs : List Addr} {cl : List C3} {i : Nat} {b : Addr}, ClP H bs cl → bs[i]? = some b → ∃ c, cl[i]? = some c ∧ H b = some (.tup [.int c.1, .int c.2.1, .int c.2.2])
  | _, _, 0, _, .cons r _, h => by cases h; exact ⟨_, rfl, r⟩
  | _, _, i + 1, _, .cons _ t, h => ClP.get (i := i) t (by simpa using h)
noncomputable def ClT (H : Hp) (a : Addr) (cl : List C3) : Prop := ∃ bs, H a = some (.tup (bs.map V.ref)) ∧ ClP H bs cl
theorem ClT.ext {H H' : Hp} {a : Addr} {cl : List C3} (h : ClT H a cl) (e : Ext H H') : ClT H' a cl := let ⟨bs, h1, h2⟩ := h; ⟨bs, e.tup _ _ h1, h2.ext e⟩
structure CuOk (cs : List Int) : Prop where
  l1 : 1 ≤ cs.length
  l6 : cs.length ≤ 6
  num : ∀ x ∈ cs, 1 ≤ x ∧ x ≤ 100
noncomputable def lt2 (a b : Int × Int) : Bool := HT.lexLt [a.1, a.2] [b.1, b.2]
noncomputable def key2 (c : C3) : Int × Int := (c.1, c.2.1)
structure ClOk (cl : List C3) : Prop where
  l1 : 1 ≤ cl.length
  l12 : cl.length ≤ 12
  num : ∀ c ∈ cl, (0 ≤ c.1 ∧ c.1 ≤ 3) ∧ (0 ≤ c.2.1 ∧ c.2.1 ≤ 5) ∧ 1 ≤ c.2.2 ∧ c.2.2 ≤ 20
  up : (cl.map key2).Pairwise fun a b => lt2 a b = true
noncomputable def Under (cs : List Int) (cl : List C3) : Prop := ∀ c ∈ cl, c.2.1 < cs.length
noncomputable def cuAt (H : Hp) (a : Addr) (cs : List Int) : Prop := H a = some (.tup (cs.map V.int))
noncomputable def Wk (J : It) (xs : List V) (S : Hp → Prop) : Prop := ∀ {g : TG} {tb : TS} {D : Ends} {σ : St} {H : Hp} (Pv : Nat → St → Hp → Prop), Pv 0 σ H → (∀ i σ H, i ≤ xs.length → Pv i σ H → S H) →
  (∀ i x σ H, xs[i]? = some x → Pv i σ H → g x σ H fun σ2 H2 => tb { D with nx := Pv (i + 1), ct := Pv (i + 1), bk := D.nx } σ2 H2) → (∀ σ H, Pv xs.length σ H → D.nx σ H) → tForJ J g tb D σ H
theorem wk_tup {K : PySem.W.Frag} {a : Addr} {xs : List V} : Wk (Itt K a) xs fun H => SqT K H a xs := fun Pv h0 hl hs hd => for_tup Pv h0 hl hs hd
theorem wk_list {K : PySem.W.Frag} {a : Addr} {xs : List V} : Wk (Itl K a) xs fun H => SqL K H a xs := fun Pv h0 hl hs hd => for_list Pv h0 hl hs hd
theorem comp_cl {K : PySem.W.Frag} {J : It} {S : Hp → Prop} {l : Addr} {bs : List Addr} {cl : List C3} {te : TE} {H0 : Hp} {rest : St} {Q : St → Hp → Prop} (W : Wk J (bs.map V.ref) S) (hS : ∀ H', Same H0 H' → S H') (hC : ClP H0 bs cl) (hl : H0 l = none) (hz : bs.length ≤ 1000) (f : C3 → V)
    (turn : ∀ c H' Q', c ∈ cl → Same H0 H' → (∀ H2, Same H' H2 → Q' (f c) H2) → te (some (.int c.1) :: some (.int c.2.1) :: some (.int c.2.2) :: rest) H' Q') (hQ : ∀ σ H', Same H0 H' → H' l = some (.lst (cl.map f)) → Q σ H') :
    tForJ J (gTup K 3 (gCons (gName 0) (gCons (gName 1) (gCons (gName 2) gNil)))) (tBodyC tAll (tEmit l te)) (eC Q) (none :: none :: none :: rest) (upd H0 l (.lst [])) := by
  have hlen : bs.length = cl.length := Paired.length hC
  refine W (fun i σ H' => (∃ x y z, σ = x :: y :: z :: rest) ∧ Same H0 H' ∧ H' l = some (.lst ((cl.take i).map f))) ⟨⟨_, _, _, rfl⟩, same_upd hl, by rw [upd_same]; rfl⟩ (fun i σ H' _ h => hS _ h.2.1) ?_ ?_
  · rintro i x σ H' hx ⟨⟨x0, y0, z0, rfl⟩, hs, hl'⟩
    rw [List.getElem?_map] at hx
    cases hb : bs[i]? with
    | none => rw [hb] at hx; cases hx
    | some b =>
      rw [hb] at hx; cases hx
      obtain ⟨c, hc, he⟩ := hC.get hb
      refine ⟨b, _, rfl, SqT.of (hs _ _ he), rfl, _, _, rfl, _, _, rfl, _, _, rfl, rfl, ?_⟩
      refine body_all ?_
      refine turn c H' _ (List.mem_of_getElem? hc) hs fun H2 h2 => ?_
      refine ⟨_, h2 _ _ hl', small1000 (by rw [List.length_map, List.length_take]; (first | lia | omega)), ⟨_, _, _, rfl⟩, fun b u e => ?_, ?_⟩
      · rw [upd_ne (ne_of_none e hl)]; exact h2 _ _ (hs _ _ e)
      · rw [upd_same, List.take_succ, hc, List.map_append]; rfl
  · rintro σ H' ⟨_, hs, hl'⟩
    rw [List.length_map, hlen, List.take_of_length_le (Nat.le_refl _)] at hl'
    exact hQ σ H' hs hl'
theorem comp_key {K : PySem.W.Frag} {J : It} {S : Hp → Prop} {l : Addr} {bs : List Addr} {cl : List C3} {H0 : Hp} {Q : St → Hp → Prop} (W : Wk J (bs.map V.ref) S) (hS : ∀ H', Same H0 H' → S H') (hC : ClP H0 bs cl) (hl : H0 l = none) (hz : bs.length ≤ 1000)
    (hQ : ∀ σ H' ps, Same H0 H' → H' l = some (.lst (ps.map V.ref)) → PlAt H' ps (cl.map key2) → Q σ H') :
    tForJ J (gTup K 3 (gCons (gName 0) (gCons (gName 1) (gCons (gName 2) gNil)))) (tBodyC tAll (tEmit l (tTup (tCons (tVar 0) (tCons (tVar 1) tNil))))) (eC Q) [none, none, none] (upd H0 l (.lst [])) := by
  have hlen : bs.length = cl.length := Paired.length hC
  refine W (fun i σ H' => σ.length = 3 ∧ Same H0 H' ∧ ∃ ps : List Addr, H' l = some (.lst (ps.map V.ref)) ∧ PlAt H' ps ((cl.take i).map key2)) ⟨rfl, same_upd hl, [], by rw [upd_same]; rfl, .nil⟩ (fun i σ H' _ h => hS _ h.2.1) ?_ ?_
  · rintro i x σ H' hx ⟨hσ, hs, ps, hl', hP⟩
    match σ, hσ with
    | [x0, y0, z0], _ =>
    rw [List.getElem?_map] at hx
    cases hb : bs[i]? with
    | none => rw [hb] at hx; cases hx
    | some b =>
      rw [hb] at hx; cases hx
      obtain ⟨c, hc, he⟩ := hC.get hb
      have hpl : ps.length ≤ i := by have := Paired.length hP; rw [List.length_map, List.length_take] at this; (first | lia | omega)
      have hil : i < bs.length := (List.getElem?_eq_some_iff.mp hb).1
      refine ⟨b, _, rfl, SqT.of (hs _ _ he), rfl, _, _, rfl, _, _, rfl, _, _, rfl, rfl, ?_⟩
      refine body_all ?_
      refine ⟨_, rfl, _, rfl, by show 2 ≤ sizeLine; decide, fun q hq => ?_⟩
      have s2 := same_upd (o := .tup [.int c.1, .int c.2.1]) hq
      have hlq : q ≠ l := fun z => by rw [z, hl'] at hq; cases hq
      refine ⟨_, s2 _ _ hl', small1000 (by rw [List.length_map]; (first | lia | omega)), rfl, fun b u e => ?_, ps ++ [q], ?_, ?_⟩
      · rw [upd_ne (ne_of_none e hl)]; exact s2 _ _ (hs _ _ e)
      · rw [upd_same, List.map_append]; rfl
      · rw [List.take_succ, hc, List.map_append]
        refine PlAt.snoc (Paired.mapP hP fun p c' e => ?_) (by rw [upd_ne hlq, upd_same]; rfl)
        have e' := s2 _ _ e
        rw [upd_ne (fun z => by rw [z, s2 _ _ hl'] at e'; cases e')]; exact e'
  · rintro σ H' ⟨_, hs, ps, hl', hP⟩
    rw [List.length_map, hlen, List.take_of_length_le (Nat.le_refl _)] at hP
    exact hQ σ H' ps hs hl' hP
end L2
set_option Elab.async false
set_option linter.all false
set_option maxRecDepth 100000
set_option maxHeartbeats 4000000
namespace L2
open PySem PySem.Spec PyProof.Rows
theorem comp_clN {J : It} {S : Hp → Prop} {l : Addr} {bs : List Addr} {cl : List C3} {tt : TT} {H0 : Hp} {rest : St} {Q : St → Hp → Prop} (p : C3 → Bool) (W : Wk J (bs.map V.ref) S) (hS : ∀ H', Same H0 H' → S H') (hC : ClP H0 bs cl) (hl : H0 l = none) (hz : bs.length ≤ 1000)
    (tst : ∀ b c H' Q', H' b = some (.tup [.int c.1, .int c.2.1, .int c.2.2]) → Same H0 H' → (∀ H2, Same H' H2 → Q' (p c) H2) → tt (some (.ref b) :: rest) H' Q')
    (hQ : ∀ σ H' bs', Same H0 H' → H' l = some (.lst ((bs' : List Addr).map V.ref)) → ClP H' bs' (cl.filter p) → Q σ H') :
    tForJ J (gName 0) (tBodyC tt (tEmit l (tVar 0))) (eC Q) (none :: rest) (upd H0 l (.lst [])) := by
  have hlen : bs.length = cl.length := Paired.length hC
  refine W (fun i σ H' => (∃ x, σ = x :: rest) ∧ Same H0 H' ∧ ∃ bs' : List Addr, H' l = some (.lst (bs'.map V.ref)) ∧ ClP H' bs' ((cl.take i).filter p)) ⟨⟨_, rfl⟩, same_upd hl, [], by rw [upd_same]; rfl, .nil⟩ (fun i σ H' _ h => hS _ h.2.1) ?_ ?_
  · rintro i x σ H' hx ⟨⟨x0, rfl⟩, hs, bs', hl', hP⟩
    rw [List.getElem?_map] at hx
    cases hb : bs[i]? with
    | none => rw [hb] at hx; cases hx
    | some b =>
      rw [hb] at hx; cases hx
      obtain ⟨c, hc, he⟩ := hC.get hb
      have hi : i < bs.length := (List.getElem?_eq_some_iff.mp hb).1
      have et : (cl.take (i + 1)).filter p = (cl.take i).filter p ++ (if p c = true then [c] else []) := by
        rw [List.take_succ, hc, List.filter_append]
        congr 1
        by_cases z : p c = true
        · simp [z]
        · simp [z]
      have hfl := List.length_filter_le p (cl.take i)
      rw [List.length_take] at hfl
      have hbl := Paired.length hP
      refine tst b c H' _ (hs _ _ he) hs fun H2 h2 => ?_
      have hl2 := h2 _ _ hl'
      refine iteB (fun hz' => ?_) fun hz' => ?_
      · refine ⟨_, rfl, _, hl2, small1000 (by rw [List.length_map]; (first | lia | omega)), ⟨_, rfl⟩, fun b2 u e => ?_, bs' ++ [b], ?_, ?_⟩
        · rw [upd_ne (ne_of_none e hl)]; exact h2 _ _ (hs _ _ e)
        · rw [upd_same, List.map_append]; rfl
        · rw [et, if_pos hz']
          have up : ∀ b2 xs, H2 b2 = some (.tup xs) → (upd H2 l (.lst (bs'.map V.ref ++ [.ref b]))) b2 = some (.tup xs) := fun b2 xs e => by rw [upd_ne (fun z => by rw [z, hl2] at e; cases e)]; exact e
          exact Paired.snoc (Paired.mapP hP fun _ _ e => up _ _ (h2 _ _ e)) (up _ _ (h2 _ _ (hs _ _ he)))
      · refine ⟨⟨_, rfl⟩, hs.trans h2, bs', hl2, ?_⟩
        rw [et, if_neg (by rw [hz']; decide), List.append_nil]
        exact Paired.mapP hP fun _ _ e => h2 _ _ e
  · rintro σ H' ⟨_, hs, bs', hl', hP⟩
    rw [List.length_map, hlen, List.take_of_length_le (Nat.le_refl _)] at hP
    exact hQ σ H' bs' hs hl' hP
end L2
set_option Elab.async false
set_option linter.all false
set_option maxRecDepth 100000
set_option maxHeartbeats 4000000
namespace L2
open PySem PySem.Spec PyProof.Rows
noncomputable def E3 (R : V → V → Bool → Prop) : List V → List V → List Bool → Prop
  | [], [], [] => True
  | x :: xs, y :: ys, k :: ks => R x y k ∧ E3 R xs ys ks
  | _, _, _ => False
noncomputable def EqF (a b : V) (k : Bool) : Prop := (∃ i j, a = .int i ∧ b = .int j ∧ k = decide (i = j)) ∨ ∃ x y, a = .str x ∧ b = .str y ∧ k = decide (x = y)
noncomputable def EqD (H : Hp) : Nat → V → V → Bool → Prop
  | 0, a, b, k => EqF a b k
  | n + 1, a, b, k => EqF a b k ∨ ∃ p q xs ys ks, a = .ref p ∧ b = .ref q ∧ ((H p = some (.tup xs) ∧ H q = some (.tup ys)) ∨ (H p = some (.lst xs) ∧ H q = some (.lst ys))) ∧ E3 (EqD H n) xs ys ks ∧ k = ks.all id
theorem E3.len {R : V → V → Bool → Prop} : ∀ {xs ys : List V} {ks : List Bool}, E3 R xs ys ks → xs.length = ys.length ∧ xs.length = ks.length
  | [], [], [], _ => ⟨rfl, rfl⟩
  | x :: xs, y :: ys, k :: ks, h => by
    have := E3.len h.2
    simp only [List.length_cons]; (first | lia | omega)
  | [], [], _ :: _, h => h.elim
  | [], _ :: _, _, h => h.elim
  | _ :: _, [], _, h => h.elim
  | _ :: _, _ :: _, [], h => h.elim
theorem E3.get {R : V → V → Bool → Prop} : ∀ {xs ys : List V} {ks : List Bool} {i : Nat} {x y : V}, E3 R xs ys ks → xs[i]? = some x → ys[i]? = some y → ∃ k, ks[i]? = some k ∧ R x y k
  | x :: xs, y :: ys, k :: ks, 0, _, _, h, h1, h2 => by cases h1; cases h2; exact ⟨k, rfl, h.1⟩
  | x :: xs, y :: ys, k :: ks, i + 1, _, _, h, h1, h2 => E3.get (i := i) h.2 (by simpa using h1) (by simpa using h2)
  | [], _, _, _, _, _, _, h1, _ => by simp at h1
  | _ :: _, [], _, _, _, _, h, _, _ => h.elim
  | _ :: _, _ :: _, [], _, _, _, h, _, _ => h.elim
theorem EqF.refl_true {a : V} {k : Bool} (h : EqF a a k) : k = true := by
  rcases h with ⟨i, j, h1, h2, h3⟩ | ⟨x, y, h1, h2, h3⟩
  · rw [h1] at h2; rw [h3, V.int.inj h2]; simp
  · rw [h1] at h2; rw [h3, V.str.inj h2]; simp
theorem EqD.refl_true {H : Hp} : ∀ {n : Nat} {a : V} {k : Bool}, EqD H n a a k → k = true
  | 0, a, k, h => EqF.refl_true h
  | n + 1, a, k, h => by
    rcases h with h | ⟨p, q, xs, ys, ks, h1, h2, h3, h4, h5⟩
    · exact EqF.refl_true h
    · rw [h1] at h2
      cases h2
      have e : xs = ys := by
        rcases h3 with ⟨u, v⟩ | ⟨u, v⟩
        · rw [u] at v; cases v; rfl
        · rw [u] at v; cases v; rfl
      subst e
      rw [h5, List.all_eq_true]
      have go : ∀ {xs : List V} {ks : List Bool}, E3 (EqD H n) xs xs ks → ∀ k ∈ ks, id k = true := fun {xs ks} => by
        induction xs generalizing ks with
        | nil => intro h k hk; cases ks with | nil => cases hk | cons _ _ => exact h.elim
        | cons x xs ih =>
          intro h k hk
          cases ks with
          | nil => cases hk
          | cons k0 ks =>
            rcases List.mem_cons.mp hk with z | z
            · rw [z]; exact EqD.refl_true h.1
            · exact ih h.2 k z
      exact go h4
theorem EqD.int {H : Hp} (n : Nat) (i j : Int) : EqD H n (.int i) (.int j) (decide (i = j)) := by
  cases n with
  | zero => exact .inl ⟨i, j, rfl, rfl, rfl⟩
  | succ n => exact .inl (.inl ⟨i, j, rfl, rfl, rfl⟩)
section
variable {X : Cx} {pins : List (Addr × Obj)} {σ : St} {H : Hp} {s : Shared}
theorem all_range (ks : List Bool) : (List.range ks.length).all (fun j => ks.getD j true) = ks.all id := by
  rw [Bool.eq_iff_iff, List.all_eq_true, List.all_eq_true]
  constructor
  · intro h k hk
    obtain ⟨j, hj, e⟩ := List.getElem_of_mem hk
    have := h j (by simpa using hj)
    rw [show ks.getD j true = ks[j] by simp [hj], e] at this
    exact this
  · intro h j hj
    have hj' : j < ks.length := by simpa using hj
    rw [show ks.getD j true = ks[j] by simp [hj']]
    exact h _ (List.getElem_mem _)
theorem items_eq {A : Around} {n : Nat} {xs ys : List V} {us ws : List Value} {ks : List Bool} (ih : ∀ {a b : V} {k : Bool} {u v : Value}, EqD H n a b k → RelV a u → RelV b v → SeqAt.EqAt A s u v k) (h4 : E3 (EqD H n) xs ys ks) (r1 : Vals xs us) (r2 : Vals ys ws) :
    ∀ j (h1 : j < us.toArray.size) (h2 : j < ws.toArray.size), SeqAt.EqAt A s us.toArray[j] ws.toArray[j] (ks.getD j true) := fun j h1 h2 => by
  have hl := h4.len
  have l1 := r1.length
  have l2 := r2.length
  rw [List.size_toArray] at h1 h2
  have j1 : j < xs.length := by (first | lia | omega)
  have j2 : j < ys.length := by (first | lia | omega)
  obtain ⟨u, hu, ru⟩ := r1.get (List.getElem?_eq_getElem j1)
  obtain ⟨v, hv, rv⟩ := r2.get (List.getElem?_eq_getElem j2)
  obtain ⟨k, hk, e⟩ := h4.get (List.getElem?_eq_getElem j1) (List.getElem?_eq_getElem j2)
  have eu : us.toArray[j] = u := by
    have := (List.getElem?_eq_some_iff.mp hu).2
    simpa using this
  have ev : ws.toArray[j] = v := by
    have := (List.getElem?_eq_some_iff.mp hv).2
    simpa using this
  rw [eu, ev, show ks.getD j true = k by rw [List.getD_eq_getElem?_getD, hk]; rfl]
  exact ih e ru rv
theorem rc_seq {A : Around} {n : Nat} {p q : Addr} {xs ys : List V} {ks : List Bool} (I : Inv X pins σ H s) (hu : A.units < cLine) (ih : ∀ {a b : V} {k : Bool} {u v : Value}, EqD H n a b k → RelV a u → RelV b v → SeqAt.EqAt A.in1 s u v k)
    (h3 : (H p = some (.tup xs) ∧ H q = some (.tup ys)) ∨ (H p = some (.lst xs) ∧ H q = some (.lst ys))) (h4 : E3 (EqD H n) xs ys ks) : SeqAt.RcAt A s (.ref p) (.ref q) (ks.all id) ∧ SeqAt.RcNeAt A s (.ref p) (.ref q) (!ks.all id) := by
  have hl := h4.len
  rcases h3 with ⟨hp, hq⟩ | ⟨hp, hq⟩
  · obtain ⟨us, r1, p1, _⟩ := I.tuple (SqT.of hp)
    obtain ⟨ws, r2, p2, _⟩ := I.tuple (SqT.of hq)
    have l1 := r1.length
    have l2 := r2.length
    have e : ((List.range (min us.toArray.size ws.toArray.size)).all (fun j => ks.getD j true) && us.toArray.size == ws.toArray.size) = ks.all id := by
      rw [List.size_toArray, List.size_toArray, show min us.length ws.length = ks.length by (first | lia | omega), all_range, show us.length = ws.length by (first | lia | omega)]
      simp
    have k1 := SeqAt.RcAt.tuples p1 p2 hu (items_eq ih h4 r1 r2)
    have k2 := SeqAt.RcNeAt.tuples p1 p2 hu (items_eq ih h4 r1 r2)
    rw [e] at k1 k2
    exact ⟨k1, k2⟩
  · obtain ⟨us, r1, p1, _⟩ := I.list (SqL.of hp)
    obtain ⟨ws, r2, p2, _⟩ := I.list (SqL.of hq)
    have l1 := r1.length
    have l2 := r2.length
    have e : (List.range us.toArray.size).all (fun j => ks.getD j true) = ks.all id := by rw [List.size_toArray, show us.length = ks.length by (first | lia | omega), all_range]
    have hz : us.toArray.size = ws.toArray.size := by rw [List.size_toArray, List.size_toArray]; (first | lia | omega)
    have k1 := SeqAt.RcAt.lists p1.isList p2.isList hz hu (items_eq ih h4 r1 r2)
    have k2 := SeqAt.RcNeAt.lists p1.isList p2.isList hz hu (items_eq ih h4 r1 r2)
    rw [e] at k1 k2
    exact ⟨k1, k2⟩
theorem eqD_at (I : Inv X pins σ H s) : ∀ {n : Nat} {A : Around} {a b : V} {k : Bool} {u v : Value}, A.units + n < cLine → EqD H n a b k → RelV a u → RelV b v → SeqAt.EqAt A s u v k := by
  have flat : ∀ {A : Around} {a b : V} {k : Bool} {u v : Value}, EqF a b k → RelV a u → RelV b v → SeqAt.EqAt A s u v k := fun {A a b k u v} h ra rb => by
    rcases h with ⟨i, j, rfl, rfl, rfl⟩ | ⟨x, y, rfl, rfl, rfl⟩
    · obtain ⟨t, rfl⟩ := ra
      obtain ⟨t', rfl⟩ := rb
      have := SeqAt.EqAt.int_int (A := A) (s := s) i t j t'
      rwa [show (i == j) = decide (i = j) by rw [Bool.eq_iff_iff]; simp] at this
    · obtain ⟨t, rfl⟩ := ra
      obtain ⟨t', rfl⟩ := rb
      have := SeqAt.EqAt.str_str (A := A) (s := s) x t y t'
      rwa [show (x == y) = decide (x = y) by rw [Bool.eq_iff_iff]; simp] at this
  intro n
  induction n with
  | zero => intro A a b k u v _ h ra rb; exact flat h ra rb
  | succ n ih =>
    intro A a b k u v hu h ra rb
    rcases h with h | ⟨p, q, xs, ys, ks, rfl, rfl, h3, h4, rfl⟩
    · exact flat h ra rb
    · cases ra
      cases rb
      by_cases hpq : p = q
      · subst hpq
        have : (ks.all id) = true := EqD.refl_true (n := n + 1) (H := H) (a := .ref p) (.inr ⟨p, p, xs, ys, ks, rfl, rfl, h3, h4, rfl⟩)
        rw [this]
        exact SeqAt.EqAt.same _
      · exact SeqAt.EqAt.of_refs hpq (rc_seq I (by (first | lia | omega)) (fun e r1 r2 => ih (show A.in1.units + n < cLine by show A.units + 1 + n < cLine; (first | lia | omega)) e r1 r2) h3 h4).1
end
section
variable {X : Cx}
noncomputable def rSeqD (n : Nat) (g : Bool → Bool) : R2 := fun x y H Q => ∃ p q xs ys ks, x = .ref p ∧ y = .ref q ∧ ((H p = some (.tup xs) ∧ H q = some (.tup ys)) ∨ (H p = some (.lst xs) ∧ H q = some (.lst ys))) ∧ E3 (EqD H n) xs ys ks ∧ Q (.bl (g (ks.all id))) H
theorem op_eqD (n : Nat) (hu : X.A.units + n + 1 < cLine) : OpR X (compareOp .Eq) (rSeqD n id) := by
  intro pins s σ H x y v u Q I rx ry h
  obtain ⟨p, q, xs, ys, ks, rfl, rfl, h3, h4, hq⟩ := h
  cases rx
  cases ry
  exact (rc_seq I (by (first | lia | omega)) (fun e r1 r2 => eqD_at I (show X.A.in1.units + n < cLine by show X.A.units + 1 + n < cLine; (first | lia | omega)) e r1 r2) h3 h4).1 X.prog X.w X.xe _ ⟨.bl _, H, I, rfl, hq⟩
theorem op_neD (n : Nat) (hu : X.A.units + n + 1 < cLine) : OpR X (compareOp .NotEq) (rSeqD n not) := by
  intro pins s σ H x y v u Q I rx ry h
  obtain ⟨p, q, xs, ys, ks, rfl, rfl, h3, h4, hq⟩ := h
  cases rx
  cases ry
  exact (rc_seq I (by (first | lia | omega)) (fun e r1 r2 => eqD_at I (show X.A.in1.units + n < cLine by show X.A.units + 1 + n < cLine; (first | lia | omega)) e r1 r2) h3 h4).2 X.prog X.w X.xe _ ⟨.bl _, H, I, rfl, hq⟩
noncomputable def rInD (n : Nat) (g : Bool → Bool) : R2 := fun x y H Q => ∃ q xs ks, y = .ref q ∧ (H q = some (.tup xs) ∨ H q = some (.lst xs)) ∧ E3 (EqD H n) xs (xs.map fun _ => x) ks ∧ Q (.bl (g (ks.any id))) H
theorem relV_inj : ∀ {a b : V} {u : Value}, RelV a u → RelV b u → a = b := fun {a b u} ha hb => by
  cases a <;> cases b <;> simp only [RelV] at ha hb <;> first
    | rfl
    | (subst ha; cases hb; rfl)
    | (subst ha; cases hb; done)
    | (obtain ⟨t, rfl⟩ := ha; obtain ⟨t', e⟩ := hb; cases e; rfl)
    | (obtain ⟨t, rfl⟩ := ha; obtain ⟨t', e⟩ := hb; cases e; done)
    | (obtain ⟨t, rfl⟩ := ha; cases hb; done)
    | (obtain ⟨t, rfl⟩ := hb; cases ha; done)
theorem EqF.func {a b : V} {k k' : Bool} (h : EqF a b k) (h' : EqF a b k') : k = k' := by
  rcases h with ⟨i, j, rfl, rfl, rfl⟩ | ⟨x, y, rfl, rfl, rfl⟩
  · rcases h' with ⟨i', j', h1, h2, rfl⟩ | ⟨x, y, h1, h2, rfl⟩
    · cases h1; cases h2; rfl
    · cases h1
  · rcases h' with ⟨i', j', h1, h2, rfl⟩ | ⟨x', y', h1, h2, rfl⟩
    · cases h1
    · cases h1; cases h2; rfl
theorem EqF.noref {p : Addr} {b : V} {k : Bool} (h : EqF (.ref p) b k) : False := by
  rcases h with ⟨i, j, h1, _⟩ | ⟨x, y, h1, _⟩ <;> cases h1
theorem EqD.func {H : Hp} : ∀ {n : Nat} {a b : V} {k k' : Bool}, EqD H n a b k → EqD H n a b k' → k = k'
  | 0, a, b, k, k', h, h' => EqF.func h h'
  | n + 1, a, b, k, k', h, h' => by
    rcases h with h | ⟨p, q, xs, ys, ks, rfl, rfl, h3, h4, rfl⟩
    · rcases h' with h' | ⟨p, q, xs, ys, ks, rfl, rfl, h3, h4, rfl⟩
      · exact EqF.func h h'
      · exact h.noref.elim
    · rcases h' with h' | ⟨p', q', xs', ys', ks', e1, e2, h3', h4', rfl⟩
      · exact h'.noref.elim
      · cases e1; cases e2
        have ex : xs = xs' ∧ ys = ys' := by
          rcases h3 with ⟨u, v⟩ | ⟨u, v⟩ <;> rcases h3' with ⟨u', v'⟩ | ⟨u', v'⟩ <;> rw [u] at u' <;> rw [v] at v' <;> cases u' <;> cases v' <;> exact ⟨rfl, rfl⟩
        obtain ⟨rfl, rfl⟩ := ex
        have go : ∀ {xs ys : List V} {ks ks' : List Bool}, E3 (EqD H n) xs ys ks → E3 (EqD H n) xs ys ks' → ks = ks' := fun {xs} => by
          induction xs with
          | nil =>
            intro ys ks ks' g g'
            cases ys with
            | nil =>
              cases ks with
              | nil => cases ks' with | nil => rfl | cons _ _ => exact g'.elim
              | cons _ _ => exact g.elim
            | cons _ _ => exact g.elim
          | cons x xs ih =>
            intro ys ks ks' g g'
            cases ys with
            | nil => exact g.elim
            | cons y ys =>
              cases ks with
              | nil => exact g.elim
              | cons k ks =>
                cases ks' with
                | nil => exact g'.elim
                | cons k' ks' => rw [EqD.func g.1 g'.1, ih g.2 g'.2]
        rw [go h4 h4']
open Classical in
theorem any_in {H : Hp} {n : Nat} {x : V} {e : Value → Bool} (he : ∀ a u k, RelV a u → EqD H n a x k → e u = k) : ∀ {xs : List V} {us : List Value} {ks : List Bool}, Vals xs us → E3 (EqD H n) xs (xs.map fun _ => x) ks → us.any e = ks.any id
  | [], _, [], .nil, _ => rfl
  | [], _, _ :: _, .nil, h => h.elim
  | y :: xs, _, k :: ks, .cons r t, h => by
    rw [List.any_cons, List.any_cons, he _ _ _ r h.1, any_in he t h.2]; rfl
  | _ :: _, _, [], .cons _ _, h => h.elim
open Classical in
theorem in_core {A : Around} {n : Nat} {x : V} {v : Value} {xs : List V} {us : List Value} {ks : List Bool} {pins : List (Addr × Obj)} {σ : St} {H : Hp} {s : Shared} (I : Inv X pins σ H s) (hu : A.units + n < cLine) (rx : RelV x v) (r : Vals xs us) (h : E3 (EqD H n) xs (xs.map fun _ => x) ks) :
    ∃ e : Value → Bool, (∀ y ∈ us, SeqAt.EqAt A s y v (e y)) ∧ us.any e = ks.any id := by
  refine ⟨fun y => decide (∃ a, RelV a y ∧ EqD H n a x true), fun y hy => ?_, any_in (fun a u k ra hk => ?_) r h⟩
  · obtain ⟨j, hj, e⟩ := List.getElem_of_mem hy
    have hl := r.length
    have hjx : j < xs.length := by (first | lia | omega)
    obtain ⟨u, hu', ru⟩ := r.get (List.getElem?_eq_getElem hjx)
    have eu : u = y := by
      rw [List.getElem?_eq_getElem hj, e] at hu'
      exact (Option.some.inj hu').symm
    subst eu
    obtain ⟨k, hk, ek⟩ := h.get (List.getElem?_eq_getElem hjx) (y := x) (by rw [List.getElem?_map, List.getElem?_eq_getElem hjx]; rfl)
    have : decide (∃ a, RelV a u ∧ EqD H n a x true) = k := by
      cases k with
      | true => exact decide_eq_true ⟨_, ru, ek⟩
      | false =>
        refine decide_eq_false ?_
        rintro ⟨a, ra, ea⟩
        have := relV_inj ra ru
        subst this
        cases EqD.func ek ea
    show SeqAt.EqAt A s u v (decide (∃ a, RelV a u ∧ EqD H n a x true))
    rw [this]
    exact eqD_at I hu ek ru rx
  · cases k with
    | true => exact decide_eq_true ⟨a, ra, hk⟩
    | false =>
      refine decide_eq_false ?_
      rintro ⟨b, rb, eb⟩
      have := relV_inj rb ra
      subst this
      cases EqD.func hk eb
theorem op_inD (n : Nat) (hu : X.A.units + n + 1 < cLine) : OpR X (compareOp .In) (rInD n id) := by
  intro pins s σ H x y v u Q I rx ry h
  obtain ⟨q, xs, ks, rfl, hq, h4, hQ⟩ := h
  cases ry
  have hu' : X.A.in1.units + n < cLine := by show X.A.units + 1 + n < cLine; (first | lia | omega)
  rcases hq with hq | hq
  · obtain ⟨us, r, p, _⟩ := I.tuple (SqT.of hq)
    obtain ⟨e, e1, e2⟩ := in_core I hu' rx r h4
    refine SeqAt.in_tupleAt e p (fun y hy => e1 y (by simpa using hy)) ⟨.bl _, H, I, rfl, ?_⟩
    rw [show us.toArray.any e = us.any e by simp, e2]; exact hQ
  · obtain ⟨us, r, p, _⟩ := I.list (SqL.of hq)
    obtain ⟨e, e1, e2⟩ := in_core I hu' rx r h4
    refine SeqAt.in_listAt e p.isList (fun y hy => e1 y (by simpa using hy)) ⟨.bl _, H, I, rfl, ?_⟩
    rw [show us.toArray.any e = us.any e by simp, e2]; exact hQ
theorem op_notInD (n : Nat) (hu : X.A.units + n + 1 < cLine) : OpR X (compareOp .NotIn) (rInD n not) := by
  intro pins s σ H x y v u Q I rx ry h
  obtain ⟨q, xs, ks, rfl, hq, h4, hQ⟩ := h
  cases ry
  have hu' : X.A.in1.units + n < cLine := by show X.A.units + 1 + n < cLine; (first | lia | omega)
  rcases hq with hq | hq
  · obtain ⟨us, r, p, _⟩ := I.tuple (SqT.of hq)
    obtain ⟨e, e1, e2⟩ := in_core I hu' rx r h4
    refine SeqAt.notIn_tupleAt e p (fun y hy => e1 y (by simpa using hy)) ⟨.bl _, H, I, rfl, ?_⟩
    rw [show us.toArray.any e = us.any e by simp, e2]; exact hQ
  · obtain ⟨us, r, p, _⟩ := I.list (SqL.of hq)
    obtain ⟨e, e1, e2⟩ := in_core I hu' rx r h4
    refine SeqAt.notIn_listAt e p.isList (fun y hy => e1 y (by simpa using hy)) ⟨.bl _, H, I, rfl, ?_⟩
    rw [show us.toArray.any e = us.any e by simp, e2]; exact hQ
end
end L2
set_option Elab.async false
set_option linter.all false
set_option maxRecDepth 100000
set_option maxHeartbeats 4000000
namespace L2
open PySem PySem.Spec PyProof.Rows
noncomputable def DictAt (e : Addr) (d : Option Addr) (h : Heap) : Prop := ∃ o, h.get? e = some o ∧ o.dict = d
noncomputable def KD (e : Addr) {α : Type} (t : Sem α) : Prop := ∀ (M : Model) (Γ : PySem.Ctx) (Q : α → Pos → Shared → Prop) (E : Value → Pos → Shared → Prop) (p : Pos) (s : Shared) (d : Option Addr), DictAt e d s.heap → Sem.wp M Γ t Q E p s →
  Sem.wp M Γ t (fun a p' s' => Q a p' s' ∧ DictAt e d s'.heap) E p s
section
variable {e : Addr} {α β : Type}
theorem KD.pure {a : α} : KD e (Pure.pure a : Sem α) := fun M Γ Q E p s d x h => by
  rw [Sem.wp_pure'] at h ⊢; exact ⟨h, x⟩
theorem KD.uns {w : String} : KD e (PySem.unsupported w : Sem α) := fun M Γ Q E p s d x h => h.elim
theorem KD.bind {m : Sem α} {f : α → Sem β} (a : KD e m) (b : ∀ x, KD e (f x)) : KD e (m >>= f) := fun M Γ Q E p s d x h => by
  rw [Sem.wp_bind'] at h ⊢
  exact Sem.wp_mono M Γ m (fun v p' s' z => b v M Γ Q E p' s' d z.2 z.1) (fun _ _ _ z => z) p s (a M Γ _ E p s d x h)
theorem KD.ite {c : Prop} [Decidable c] {a b : Sem α} (x : KD e a) (y : KD e b) : KD e (if c then a else b) := by
  split
  · exact x
  · exact y
theorem KD.load {a : Addr} : KD e (PySem.load a) := fun M Γ Q E p s d x h => by
  obtain ⟨o, ho, z⟩ := h
  exact ⟨o, ho, z, x⟩
theorem KD.stack : KD e PySem.stack := fun M Γ Q E p s d x h => ⟨h, x⟩
theorem KD.alloc {o : Obj} : KD e (PySem.alloc o) := fun M Γ Q E p s d x h => by
  obtain ⟨u, hu, hd⟩ := x
  exact ⟨h, u, Heap.get?_push_of_some _ hu, hd⟩
theorem KD.update {a : Addr} {f : Obj → Obj} (hd : ∀ o, (f o).dict = o.dict) (hf : ∀ o, o.isFreed = false → (f o).isFreed = false) : KD e (PySem.update a f) := fun M Γ Q E p s d x h => by
  obtain ⟨q, z⟩ := h
  refine ⟨q, z, ?_⟩
  obtain ⟨u, hu, hd'⟩ := x
  by_cases h2 : a = e
  · subst h2
    exact ⟨_, Heap.get?_update_self f hu (hf _ (Heap.get?_some_iff.mp hu).2), (hd u).trans hd'⟩
  · exact ⟨u, (Heap.get?_update_other _ _ h2).trans hu, hd'⟩
theorem KD.fieldsOf {v : Value} : KD e (PySem.fieldsOf v) := by
  unfold PySem.fieldsOf
  split
  · refine KD.bind KD.load fun o => ?_
    split
    · exact KD.pure
    · exact KD.uns
  · exact KD.uns
theorem KD.field {v : Value} {i : Nat} : KD e (PySem.field v i) := by
  unfold PySem.field
  refine KD.bind KD.fieldsOf fun o => ?_
  split
  · exact KD.pure
  · exact KD.uns
theorem KD.setField {v x : Value} {i : Nat} : KD e (PySem.setField v i x) := by
  unfold PySem.setField
  split
  · unfold updateField
    refine KD.bind KD.load fun o => ?_
    split
    · split
      · refine KD.update (fun o => ?_) fun o h => ?_
        · unfold Obj.mapFields; split <;> rfl
        · unfold Obj.mapFields
          obtain ⟨c, dd, dt, sl⟩ := o
          cases dt <;> first | rfl | exact h
      · exact KD.uns
    · exact KD.uns
  · exact KD.uns
theorem KD.newObjAsIs {c : String} {dt : Data} {dd : Option Addr} : KD e (PySem.newObjAsIs (.type c) dt dd) := by
  unfold PySem.newObjAsIs
  exact KD.bind KD.alloc fun _ => KD.pure
theorem KD.newEntry {a b c d f : Value} {l : List Value} : KD e (EntryCells.newEntry a b c d f l) := by
  unfold EntryCells.newEntry newFields newObj
  dsimp only
  exact KD.ite (KD.bind KD.uns fun _ => KD.newObjAsIs) KD.newObjAsIs
theorem KD.readyFrames : ∀ l : List Env, KD e (PySem.readyFrames l)
  | [] => KD.pure
  | env :: outer => by
    unfold PySem.readyFrames
    split
    · refine KD.bind KD.load fun o => ?_
      refine KD.ite KD.pure ?_
      refine KD.bind ?_ fun b => KD.bind ?_ fun c => KD.bind ?_ fun _ => KD.readyFrames outer
      · unfold behindIsImport
        refine KD.ite KD.pure (KD.ite KD.pure (KD.bind KD.field fun _ => KD.pure))
      · unfold keptBack
        split
        · refine KD.ite KD.pure ?_
          unfold underTheClaimsCaller
          exact KD.bind (KD.bind KD.stack fun _ => KD.pure) fun _ => KD.pure
        · exact KD.pure
      · exact KD.update (fun o => rfl) fun o h => by obtain ⟨c, dd, dt, sl⟩ := o; cases dt <;> first | rfl | exact h
    · exact KD.uns
theorem KD.frameOf {env : Env} : KD e (PySem.frameOf env) := by
  unfold PySem.frameOf frameEnvs
  refine KD.bind (KD.bind KD.stack fun _ => KD.pure) fun l => KD.bind ?_ fun r => ?_
  · unfold frameObject
    split
    · exact KD.pure
    · exact KD.bind (KD.readyFrames _) fun _ => KD.pure
  · split
    · exact KD.pure
    · exact KD.uns
theorem KD.entryPlaceOf {f : Addr} {b : Bool} : KD e (PySem.entryPlaceOf f b) := by
  unfold PySem.entryPlaceOf
  refine KD.bind KD.stack fun l => ?_
  split <;> exact KD.pure
theorem KD.noteFrame {v : Value} {env : Env} : KD e (PySem.noteFrame v env) := by
  unfold PySem.noteFrame
  split
  · refine KD.bind KD.field fun hd => ?_
    have last : ∀ (f : Addr), KD e (do
        let a ← PySem.frameOf env
        let pl ← PySem.entryPlaceOf f (hd != .none)
        let b ← EntryCells.newEntry hd a .none (rawInt f) .none pl
        PySem.setField v 1 b) := fun f => KD.bind KD.frameOf fun _ => KD.bind KD.entryPlaceOf fun _ => KD.bind KD.newEntry fun _ => KD.setField
    refine KD.ite ?_ (last _)
    refine KD.bind KD.field fun _ => KD.ite KD.pure (KD.bind KD.setField fun _ => last _)
  · exact KD.uns
theorem KD.setFlight {v : Value} {f : Option Addr} : KD e (PySem.setFlight v f) := by
  unfold PySem.setFlight
  refine KD.bind KD.field fun hd => ?_
  exact KD.ite KD.setField KD.pure
theorem KD.leaving {v : Value} {env : Env} : KD e (PySem.leaving env v) := by
  unfold PySem.leaving
  exact KD.bind KD.noteFrame fun _ => KD.setFlight
theorem KD.any {M : Model} {A : Around} {t : Sem α} {Q : α → Shared → Prop} {E : Value → Shared → Prop} {s : Shared} {d : Option Addr} (k : KD e t) (x : DictAt e d s.heap) (h : wpAny M A t Q E s) :
    wpAny M A t (fun a s' => Q a s' ∧ DictAt e d s'.heap) E s := fun Γ p hΓ => k M Γ _ _ p s d x (h Γ p hΓ)
end
end L2
set_option Elab.async false
set_option linter.all false
set_option maxRecDepth 100000
set_option maxHeartbeats 4000000
namespace L2
open PySem PySem.Spec PyProof.Rows
noncomputable def excInI (K : PySem.W.Frag) (C : Addr) (bmB : List Value) (newId : String) : Bool := match K.lookup C with
  | some ⟨.type "type", _, .cls kd, sl⟩ => (match kd.mro, sl.toList with
    | .ref C' :: tl0, [_, _, _, _, some (.builtin n), _] => C' == C && n == newId && !kd.hasDel && PySem.W.tailIn K bmB tl0 && PySem.W.nsOkIn K kd.ns
    | _, _ => false)
  | _ => false
structure ExcI (K : PySem.W.Frag) (C f : Addr) : Prop where
  ex : excInI K C bmV "ValueError.__new__" = true
  init : PySem.W.findIn K (.ref C) "__init__" = some (some (.ref f))
  fn : PySem.W.isFn K (.ref f) = true
  kp : PySem.W.keepIn K (.ref C) = true
theorem ExcI.obj {K : PySem.W.Frag} {C f : Addr} {h : Heap} (c : ExcI K C f) (X : K.In h) : ∃ tl0 N nm q bs hdct sn sub ab col dd k0 k1 k2 k3 k5,
    h.get? C = some (excClassObj nm q C N bs tl0 hdct sn sub ab col dd k0 k1 k2 k3 k5 "ValueError.__new__") ∧ OwnTail h bmV tl0 := by
  have z := c.ex
  unfold excInI at z
  split at z
  · rename_i dct cdat slt look
    split at z
    · rename_i C2 tl a0 a1 a2 a3 nid a5 m1 m2
      simp only [Bool.and_eq_true, beq_iff_eq, Bool.not_eq_true'] at z
      obtain ⟨⟨⟨⟨rfl, rfl⟩, noDel⟩, tail⟩, isN⟩ := z
      obtain ⟨y1, y2, y3, y4, y5, y6, y7, y8, y9, y10, y11⟩ := cdat
      dsimp only at m1 noDel isN
      subst m1 noDel
      obtain ⟨ls⟩ := slt
      replace m2 : ls = _ := m2
      subst m2
      exact ⟨tl, y4, y1, y5, y2, y6, y7, y8, y9, y10, dct, a0, a1, a2, a3, a5, X _ _ look, PySem.W.tail_of_in X tail⟩
    · cases z
  · cases z
noncomputable abbrev xO (C t : Addr) (d : Option Addr) : Obj := { cls := .ref C, dict := d, data := .fields #[.ref t, .none, .none, .none, .bool false, .none] }
noncomputable abbrev newX (h : Heap) (C : Addr) (us : List Value) : Heap := (h.push { cls := .type "tuple", data := .seq us.toArray }).push (xO C h.objs.size none)
section
open PySem.W PySem.Calls Builtin
variable {prog : Program} {w : World} {A : Around} {E : Value → Shared → Prop} {K : PySem.W.Frag} {C f : Addr} {h : Heap} {g : Array GenState} {d : Drawn} {t : Nat} {os : OsState} {us : List Value}
theorem excI_type_call {Q : Fin → Shared → Prop} (c : ExcI K C f) (X : K.In h) (hu : us.length ≤ sizeLine)
    (hq : wpAny (model prog w) A (call (.ref f) (.ref (h.objs.size + 1) :: us)) (fun r s' => r = .none ∧ Q (.done (.ret (.ref (h.objs.size + 1)))) s') E ⟨newX h C us, g, d, t, os⟩) :
    wpAny (model prog w) A (Builtin.«type.__call__» ⟨.ref C :: us, []⟩) Q E ⟨h, g, d, t, os⟩ := by
  obtain ⟨tl0, N, nm, q, bs, hdct, sn, sub, ab, col, dd, k0, k1, k2, k3, k5, hK, T⟩ := c.obj X
  have F := PySem.F.excBase_ValueError
  repeat (first | with_reducible refine wpAny_loadPart_at hK ?_ | with_reducible refine wpAny_madeBy_exc hK ?_ | wp_step)
  refine codeAny_call_builtin_code (Code.quiet_builtin _ F.quiet) (wpAny_check_new_subT F T hK ?_)
  refine codeAny_exc_new_subT F T hK ?_ hu
  show wpAny _ _ _ _ _ ⟨newX h C us, g, d, t, os⟩
  have k1' : ∀ b o, h.get? b = some o → (newX h C us).get? b = some o := fun b o e => Heap.get?_push_of_some _ (Heap.get?_push_of_some _ e)
  have hK1 := k1' _ _ hK
  have X1 : K.In (newX h C us) := X.keeps k1'
  have hG : (newX h C us).get? (h.objs.size + 1) = some (xO C h.objs.size none) := by heap_get
  have hSelf : (Value.ref C :: tl0).contains (.ref C) = true := by simp
  unfold isInstance
  repeat (first | with_reducible refine wpAny_loadPart_at hG ?_ | (with_reducible refine wpAny_isSubtype_exc hK1 ?_; rw [hSelf]) | wp_step)
  show wpAny _ _ (typeLookup (.ref C) _) _ _ _
  refine (looks_findIn (M := model prog w) X1 c.init).at ?_
  refine wpAny_holding (wpAny_bind ((bind_fn (M := model prog w) X1 _ (beq_iff_eq.mp c.fn)).at (wpAny_bind (wpAny_mono hq (fun r s' hr => ?_) fun _ _ z => z))))
  obtain ⟨rfl, hQ⟩ := hr
  wp_walk
  exact hQ
theorem excI_call {Q : Value → Shared → Prop} (c : ExcI K C f) (X : K.In h) (hu : us.length ≤ sizeLine)
    (hq : wpAny (model prog w) (A.under (.builtin "type.__call__" ⟨.ref C :: us, []⟩)) (call (.ref f) (.ref (h.objs.size + 1) :: us)) (fun r s' => r = .none ∧ Q (.ref (h.objs.size + 1)) s') E ⟨newX h C us, g, d, t, os⟩) :
    wpAny (model prog w) A (call (.ref C) us) Q E ⟨h, g, d, t, os⟩ := by
  obtain ⟨tl0, N, nm, q, bs, hdct, sn, sub, ab, col, dd, k0, k1, k2, k3, k5, hK, T⟩ := c.obj X
  have lk1 := tc_lookup
  have lk2 := tc_bind (.ref C)
  have hTy : (⟨h, g, d, t, os⟩ : Shared).TypeIs (.ref C) "type" := ⟨_, hK, rfl⟩
  refine wpAny_call (codeAny_of_tree ?_)
  show wpAny _ _ (callAny (.ref C) _) _ _ _
  repeat (any_goals (first | assumption | with_reducible refine wpAny_loadPart_at hK ?_ | wp_step))
  refine ⟨rfl, ?_⟩
  exact codeAny_call_builtin_at (Code.quiet_builtin _ (by decide +kernel)) entry_typeCall (wpAny_check_type_call_sub hK (excI_type_call c X hu hq))
end
end L2
set_option Elab.async false
set_option linter.all false
set_option maxRecDepth 100000
set_option maxHeartbeats 4000000
namespace L2
open PySem PySem.W PySem.Calls PyProof.Rows Builtin Builtin.ObjectAttr
noncomputable def overV : List Value → Bool
  | .ref _ :: r => overV r
  | l => l == bmV
theorem refuse_bmV (self : Value) : refuseLoop self "__setattr__" bmV = pure () := by kernel_rfl
theorem overV_refuse (self : Value) : ∀ {l : List Value}, overV l = true → refuseLoop self "__setattr__" l = pure ()
  | [], e => by cases e
  | v :: r, e => by
    have z : overV (v :: r) = true := e
    unfold overV at z
    split at z
    · rename_i q; cases q; rw [refuseLoop_ref]; exact overV_refuse self z
    · rw [beq_iff_eq.mp z]; exact refuse_bmV self
theorem overV_has : ∀ {l : List Value}, overV l = true → l.contains (.type "object") = true
  | [], e => by cases e
  | v :: r, e => by
    unfold overV at e
    split at e
    · rename_i q; cases q; rw [List.contains_cons, overV_has e, Bool.or_true]
    · rw [beq_iff_eq.mp e]; decide
structure ExcA (K : PySem.W.Frag) (C : Addr) : Prop where
  sa : findIn K (.ref C) "__setattr__" = some (some (.builtin "object.__setattr__"))
  ov : ((clsIn K C).any fun cd => overV cd.mro) = true
  hd : hasDictIn K C = true
  ga : findIn K (.ref C) "__getattribute__" = some (some (.builtin "BaseException.__getattribute__"))
  gt : findIn K (.ref C) "__getattr__" = some none
  mb : mroIn K C (.type "BaseException") = some true
section
variable {prog : Program} {w : World} {A : Around} {E : Value → Shared → Prop} {K : PySem.W.Frag} {x C : Addr} {s : Shared} {name : Str} {v : Value}
theorem osa_exc {R : Result → Shared → Prop} {tk : Tok} (X : K.In s.heap) (I : Looks (model prog w) s.heap (typeOf (.ref x)) (.ref C)) (c : ExcA K C) (ht : takerIn K C name = some none)
    (h : ∀ b, wpAny (model prog w) A.in1 (storeInOwnDict (.ref x) (.ref C) (.str name tk) name v b)
      (fun fn0 s' => match fn0 with | .done f => R (.ok f) s' | .again c' => c'.quiet = true ∧ codeAny (model prog w) A c' R s') (fun e s' => R (.error e) s') s) :
    codeAny (model prog w) A (.call (.builtin "object.__setattr__") ⟨[.ref x, .str name tk, v], []⟩) R s := by
  have so := PySem.F.store_object
  obtain ⟨cd, hc, ho⟩ := any_some c.ov
  have nonE : cd.mro.isEmpty = false := by cases q : cd.mro with | nil => rw [q] at ho; cases ho | cons _ _ => rfl
  have sub : Looks (model prog w) s.heap (isInstance (.ref x) (.type "object")) true := I.andThen (looks_mroIn X (by unfold mroIn; rw [hc, Option.bind_some, if_neg (by rw [nonE]; decide), overV_has ho]))
  refine codeAny_call_builtin so.slot.plain so.entry (@check_slot (model prog w) _ _ s "object.__setattr__" "object" "__setattr__" (.ref x) [.str name tk, v] [] _ so.kind so.split sub (so.args (.ref x) (.str name tk) v) ?_)
  obtain ⟨at0, ha0, hr0⟩ := Option.bind_eq_some_iff.mp ht
  have lm : Looks (model prog w) s.heap (mroOf (.ref C)) cd.mro := (looks_clsIn X hc).andThen .now
  have lT : Looks (model prog w) s.heap (storeTaker? at0) none := by
    cases at0 with
    | none => exact .now
    | some a =>
      obtain ⟨b, hb, q⟩ := Option.map_eq_some_iff.mp hr0
      cases b with
      | true => cases q
      | false => exact (looks_takesIn X hb).andThen .now
  rw [osa_eq, refuse_eq]
  refine wpAny_bind (wpAny_bind (I.here (wpAny_bind (lm.here ?_))))
  rw [overV_refuse _ ho]
  refine wpAny_pure (wpAny_bind (I.here (wpAny_bind ((looks_findIn X ha0).here (wpAny_bind (lT.here ?_))))))
  exact h _
theorem exc_set {ox : Obj} {dx : Addr} {mA : Str → Option Value} {ns : List Str} {Q : Unit → Shared → Prop} (X : K.In s.heap) (c : ExcA K C) (hx : s.heap.get? x = some ox) (hc : ox.cls = .ref C) (hd : ox.dict = some dx) (ht : takerIn K C name = some none)
    (hn : s.heap.Ns1 dx mA) (hwi : PySem.Within mA ns) (hsz : ns.length ≤ sizeLine)
    (h : ∀ h', h'.Ns1 dx (fun y => if y = name then some v else mA y) → Heap.SameBut dx s.heap h' → Q () { s with heap := h', toks := s.toks + 2 }) :
    wpAny (model prog w) A (setAttr (.ref x) name v) Q E s := by
  have L0 : Looks (model prog w) s.heap (typeOf (.ref x)) (.ref C) := hc ▸ (Looks.ld hx).andThen .now
  refine wpAny_bind (wpAny_mkText (wpAny_bind (wpAny_bind (wpAny_bind (L0 _ _ _ _ (fun _ _ e => e) (looks_findIn X c.sa _ _ _ _ (fun _ _ e => e) (wpAny_holding ?_)))))))
  rw [PySem.F.store_object.slot.bind]
  refine wpAny_bind (wpAny_pure (wpAny_bind (wpAny_call (osa_exc (s := { s with toks := s.toks + 1 }) X L0 c ht fun b => ?_))))
  obtain ⟨cd, hcl, hd'⟩ := any_some c.hd
  refine wpAny_bind (wpAny_pure (wpAny_bind (wpAny_bind (wpAny_loadPart hx ?_))))
  rw [hc]
  refine wpAny_bind (Looks.here (s := { s with toks := s.toks + 1 }) (looks_clsIn X hcl) ?_)
  rw [hd', hd]
  refine wpAny_pure (a := some dx) (wpAny_bind (wpAny_pure (wpAny_bind ?_)))
  refine wpAny_nsSet1 (s := { s with toks := s.toks + 1 }) hn fun h' hn2 hs2 => ?_
  obtain ⟨oQ, esQ, epQ, hoQ, hdQ, hcQ⟩ := hn2.count (PySem.Within.cons name v hwi)
  refine wpAny_bind (wpAny_lookBehind hoQ (by rw [hdQ]; exact pastItsLine_dict (Nat.le_trans hcQ (by rw [List.length_cons]; (first | lia | omega)))) ?_)
  exact wpAny_pure (wpAny_pure (wpAny_pure (h _ hn2 hs2)))
theorem exc_set0 {t : Addr} {Q : Unit → Shared → Prop} (X : K.In s.heap) (c : ExcA K C) (hx : s.heap.get? x = some (xO C t none)) (ht : takerIn K C name = some none)
    (h : ∀ h', h'.Ns1 s.heap.objs.size (fun y => if y = name then some v else none) → h'.get? x = some (xO C t (some s.heap.objs.size)) → (∀ b o, b ≠ x → s.heap.get? b = some o → h'.get? b = some o) → Q () { s with heap := h', toks := s.toks + 2 }) :
    wpAny (model prog w) A (setAttr (.ref x) name v) Q E s := by
  have L0 : Looks (model prog w) s.heap (typeOf (.ref x)) (.ref C) := (Looks.ld hx).andThen .now
  refine wpAny_bind (wpAny_mkText (wpAny_bind (wpAny_bind (wpAny_bind (L0 _ _ _ _ (fun _ _ e => e) (looks_findIn X c.sa _ _ _ _ (fun _ _ e => e) (wpAny_holding ?_)))))))
  rw [PySem.F.store_object.slot.bind]
  refine wpAny_bind (wpAny_pure (wpAny_bind (wpAny_call (osa_exc (s := { s with toks := s.toks + 1 }) X L0 c ht fun b => ?_))))
  obtain ⟨cd, hcl, hd'⟩ := any_some c.hd
  refine wpAny_bind (wpAny_pure (wpAny_bind (wpAny_bind (wpAny_loadPart hx (wpAny_bind (Looks.here (s := { s with toks := s.toks + 1 }) (looks_clsIn X hcl) ?_))))))
  rw [hd']
  have hlt : x < s.heap.objs.size := Heap.lt_size hx
  have e1 : (s.heap.push { cls := .type "dict", data := .dict #[] }).get? s.heap.objs.size = some { cls := .type "dict", data := .dict #[] } := Heap.get?_push_size s.heap rfl
  have e2 : (s.heap.push { cls := .type "dict", data := .dict #[] }).get? x = some (xO C t none) := Heap.get?_push_of_some _ hx
  refine wpAny_bind (wpAny_alloc (wpAny_bind (wpAny_update e2 ?_)))
  refine wpAny_pure (a := some s.heap.objs.size) (wpAny_bind (wpAny_pure (wpAny_bind ?_)))
  have e3 : ((s.heap.push { cls := .type "dict", data := .dict #[] }).update x fun o => { o with dict := some s.heap.objs.size }).get? s.heap.objs.size = some { cls := .type "dict", data := .dict #[] } := (Heap.get?_update_other _ _ (Nat.ne_of_lt hlt)).trans e1
  have e4 : ((s.heap.push { cls := .type "dict", data := .dict #[] }).update x fun o => { o with dict := some s.heap.objs.size }).get? x = some (xO C t (some s.heap.objs.size)) := Heap.get?_update_self _ e2 rfl
  have e5 : ((s.heap.push { cls := .type "dict", data := .dict #[] }).update x fun o => { o with dict := some s.heap.objs.size }).Ns s.heap.objs.size (fun _ => none) := ⟨_, #[], _, e3, rfl, (fun e he => absurd he (by simp)), fun _ => rfl⟩
  refine wpAny_nsSet1 (s := { s with heap := (s.heap.push { cls := .type "dict", data := .dict #[] }).update x fun o => { o with dict := some s.heap.objs.size }, toks := s.toks + 1 }) (Heap.Ns1.of_empty e5) fun h' hn2 hs2 => ?_
  obtain ⟨oQ, esQ, epQ, hoQ, hdQ, hcQ⟩ := hn2.count (PySem.Within.cons (ns := []) name v fun y hy => absurd rfl hy)
  refine wpAny_bind (wpAny_lookBehind hoQ (by rw [hdQ]; exact pastItsLine_dict (Nat.le_trans hcQ (by show 1 ≤ sizeLine + 1; decide))) ?_)
  refine wpAny_pure (wpAny_pure (wpAny_pure (h _ hn2 ((hs2.2 _ (Nat.ne_of_lt hlt)).trans e4) fun b o hb q => ?_)))
  refine (hs2.2 b (Nat.ne_of_lt (Heap.lt_size q))).trans ?_
  exact (Heap.get?_update_other _ _ (Ne.symm hb)).trans (Heap.get?_push_of_some _ q)
end
end L2
set_option Elab.async false
set_option linter.all false
set_option maxRecDepth 100000
set_option maxHeartbeats 4000000
namespace L2
open PySem PySem.W PySem.Calls PyProof.Rows Builtin Builtin.ObjectAttr
section
variable {prog : Program} {w : World} {A : Around} {E : Value → Shared → Prop} {K : PySem.W.Frag} {x C : Addr} {s : Shared} {name : Str} {v : Value}
theorem exc_attr {ox : Obj} {od : Option Obj} {expr : Bool} {Q : Value → Shared → Prop} (X : K.In s.heap) (c : ExcA K C) (I : PySem.W.InstAt s.heap x ox C od) (hf : findObj K C od name = some (.value v)) (hh : handedIn v = true)
    (h : Q v { s with toks := s.toks + 1 }) : wpAny (model prog w) A (getAttr (.ref x) name expr) Q E s := by
  obtain ⟨hp, g, d, t, os⟩ := s
  have lt0 := I.type (M := model prog w)
  have lt1 := looks_findIn (M := model prog w) X c.ga
  have L2' := looks_findIn (M := model prog w) X c.gt
  have LB := looks_mroIn (M := model prog w) X c.mb
  have LF := looks_find (M := model prog w) X I hf
  unfold getAttr getAttrBy
  refine wpAny_bind (wpAny_mkText (wpAny_holding (wpAny_bind (lt0.at (wpAny_bind (lt1.at ?_))))))
  have hne : (onTheHeap (Value.ref C) && Value.builtin "BaseException.__getattribute__" == Value.builtin "object.__getattribute__") = false := by
    rw [show (Value.builtin "BaseException.__getattribute__" == Value.builtin "object.__getattribute__") = false by decide +kernel]; rfl
  dsimp only
  rw [if_neg (by rw [hne]; decide)]
  unfold getAttrByItsOwn hookBefore
  rw [if_pos (show onTheHeap (Value.ref C) = true from rfl)]
  refine wpAny_bind (L2'.at (wpAny_bind (wpAny_attempt (wpAny_holding ?_))))
  unfold callGetattribute boundAndCalled
  rw [if_neg (by cases expr <;> decide)]
  refine wpAny_bind (wpAny_of_eq (PySem.F.attr_ValueError.ga.bind (.ref x)) ?_)
  refine wpAny_call (codeAny_call_builtin PySem.F.attr_ValueError.ga.plain PySem.F.entry_bexc_ga ?_)
  have hkd : builtinKind "BaseException.__getattribute__" = some .slot := by decide +kernel
  have hsp : splitId "BaseException.__getattribute__" = some ("BaseException", "__getattribute__") := by decide +kernel
  have ha := PySem.F.args_bexc_ga (.ref x) (.str name t)
  simp only [checkBuiltinCall, hkd, hsp]
  have LI : Looks (model prog w) hp (isInstance (.ref x) (.type "BaseException")) true := lt0.andThen LB
  refine wpAny_bind (LI.at ?_)
  repeat (first | assumption | wp_step)
  refine wpAny_loadPart I.at_ (wpAny_pure ?_)
  rw [I.cls]
  refine wpAny_bind (LF.at ?_)
  exact wpAny_pure (handed_on hh h)
end
end L2
set_option Elab.async false
set_option linter.all false
set_option maxRecDepth 100000
set_option maxHeartbeats 4000000
namespace L2
open PySem PySem.Spec PyProof.Rows
noncomputable def exO (e C t : Addr) (d : Option Addr) : HO := .ext fun h => h.get? e = some (xO C t d)
noncomputable def xdO (d : Addr) (fs : List (Str × V)) : HO := .ext fun h => ∃ mA, h.Ns1 d mA ∧ (∀ f, RelO (fs.lookup f) (mA f)) ∧ PySem.Within mA (fs.map (·.1))
theorem exO_get {P : Program} {w : World} {H : Hp} {h : Heap} {e C t : Addr} {d : Option Addr} (x : ObjOk P w H h e (exO e C t d)) : h.get? e = some (xO C t d) := x.1
theorem exO_ok {P : Program} {w : World} {H : Hp} {h : Heap} {e C t : Addr} {d : Option Addr} (x : h.get? e = some (xO C t d)) : ObjOk P w H h e (exO e C t d) := ⟨x, ⟨_, x⟩, fun h1 h2 q k => k _ q⟩
theorem xdO_get {P : Program} {w : World} {H : Hp} {h : Heap} {d : Addr} {fs : List (Str × V)} (x : ObjOk P w H h d (xdO d fs)) : ∃ mA, h.Ns1 d mA ∧ (∀ f, RelO (fs.lookup f) (mA f)) ∧ PySem.Within mA (fs.map (·.1)) := x.1
theorem xdO_ok {P : Program} {w : World} {H : Hp} {h : Heap} {d : Addr} {fs : List (Str × V)} {mA : Str → Option Value} (n : h.Ns1 d mA) (r : ∀ f, RelO (fs.lookup f) (mA f)) (wi : PySem.Within mA (fs.map (·.1))) : ObjOk P w H h d (xdO d fs) := by
  obtain ⟨o, es, ep, e, z⟩ := id n
  exact ⟨⟨mA, n, r, wi⟩, ⟨o, e⟩, fun h1 h2 ⟨m, q1, q2, q3⟩ k => ⟨m, q1.at k, q2, q3⟩⟩
noncomputable def sFldX (K : PySem.W.Frag) (ta tv : TE) (f : Str) : TS := fun D σ H => tv σ H fun y H1 => ta σ H1 fun x H2 => ∃ e C, x = .ref e ∧ ExcA K C ∧ NoAttr K C f ∧
  ((∃ t, H2 e = some (exO e C t none) ∧ ∀ d, H2 d = none → d ≠ e → D.nx σ (upd (upd H2 d (xdO d [(f, y)])) e (exO e C t (some d)))) ∨
   (∃ t d fs, H2 e = some (exO e C t (some d)) ∧ H2 d = some (xdO d fs) ∧ fs.length < 1000 ∧ D.nx σ (upd H2 d (xdO d (putF f y fs)))))
section
variable {X : Cx} {pins : List (Addr × Obj)} {σ : St} {H : Hp} {s : Shared} {e C t : Addr} {f : Str} {A : Around} {E : Value → Shared → Prop}
theorem setX0 {y : V} {u : Value} {Q : Unit → Shared → Prop} (I : Inv X pins σ H s) (he : H e = some (exO e C t none)) (c : ExcA X.K C) (n : NoAttr X.K C f) (ry : RelV y u)
    (h : ∀ d s', H d = none → d ≠ e → Inv X pins σ (upd (upd H d (xdO d [(f, y)])) e (exO e C t (some d))) s' → Q () s') : wpAny (model X.prog X.w) A (setAttr (.ref e) f u) Q E s := by
  have hx := exO_get (I.hok _ _ he)
  refine exc_set0 I.kIn c hx n.taker fun h' hn hx' k => h s.heap.objs.size _ (I.hok.fresh (Nat.le_refl _)) (Nat.ne_of_gt (Heap.lt_size hx)) ?_
  have ne : e ≠ s.heap.objs.size := Nat.ne_of_lt (Heap.lt_size hx)
  have g1 : (h'.update e fun o => { o with dict := none }).get? e = some (xO C t none) := Heap.get?_update_self _ hx' rfl
  have g2 : ∀ b, b ≠ e → (h'.update e fun o => { o with dict := none }).get? b = h'.get? b := fun b hb => Heap.get?_update_other _ _ (Ne.symm hb)
  have I1 : Inv X pins σ (upd H s.heap.objs.size (xdO s.heap.objs.size [(f, y)])) { s with heap := h'.update e fun o => { o with dict := none }, toks := s.toks + 2 } := I.laid (fun b o q => by
      by_cases hb : b = e
      · subst hb; rw [hx] at q; cases q; exact g1
      · exact (g2 b hb).trans (k b o hb q)) (Nat.le_refl _) (xdO_ok (hn.at fun o q => (g2 _ (Ne.symm ne)).trans q) (fun g => by
        show RelO (List.lookup g [(f, y)]) (if g = f then some u else none)
        by_cases q : g = f
        · have hb : (g == f) = true := beq_iff_eq.mpr q
          simp only [List.lookup, hb, if_pos q]; exact ry
        · have hb : (g == f) = false := beq_eq_false_iff_ne.mpr q
          simp only [List.lookup, hb, if_neg q]; exact True.intro) fun g hg => by
        by_cases q : g = f
        · rw [q]; simp
        · rw [if_neg q] at hg; exact absurd rfl hg)
  have I2 := I1.write (x := e) (e := e) (o := exO e C t (some s.heap.objs.size)) (h' := h') (t' := s.toks + 2) (by rw [upd_ne ne, he]; exact True.intro) (.inl rfl) (fun b o hb q => by rw [← g2 b hb]; exact q) ⟨_, hx'⟩ (exO_ok hx')
  exact I2
theorem setX {d : Addr} {fs : List (Str × V)} {y : V} {u : Value} {Q : Unit → Shared → Prop} (I : Inv X pins σ H s) (he : H e = some (exO e C t (some d))) (hd : H d = some (xdO d fs)) (c : ExcA X.K C) (n : NoAttr X.K C f) (hl : fs.length < 1000) (ry : RelV y u)
    (h : ∀ s', Inv X pins σ (upd H d (xdO d (putF f y fs))) s' → Q () s') : wpAny (model X.prog X.w) A (setAttr (.ref e) f u) Q E s := by
  have hx := exO_get (I.hok _ _ he)
  obtain ⟨mA, hn, r, wi⟩ := xdO_get (I.hok _ _ hd)
  have hz : (fs.map (·.1)).length ≤ sizeLine := by rw [List.length_map, sizeLine_eq]; (first | lia | omega)
  refine exc_set I.kIn c hx rfl rfl n.taker hn wi hz fun h' hn' sb => h _ ?_
  obtain ⟨o, es, ep, ho, _⟩ := id hn'
  refine I.write (x := d) (e := d) (by rw [hd]; exact True.intro) (.inl rfl) (fun b q hb z => (sb.2 b hb).trans z) ⟨o, ho⟩ (xdO_ok hn' (fun g => ?_) fun g hg => ?_)
  · show RelO ((putF f y fs).lookup g) (if g = f then some u else mA g)
    rw [lookup_putF]
    by_cases q : g = f
    · rw [if_pos q, if_pos q]; exact ry
    · rw [if_neg q, if_neg q]; exact r g
  · by_cases q : g = f
    · rw [q]; exact (keys_putF f y fs).1
    · refine (keys_putF f y fs).2 g (wi g fun z => hg ?_)
      show (if g = f then some u else mA g) = none
      rw [if_neg q]; exact z
end
section
variable {X : Cx} {o value : Expr} {f : Str} {pos pos' : Pos} {ta tv : TE}
theorem ps_fldX (ha : PE X o ta) (hv : PE X value tv) (hs : swapsWith value (some (.Attribute o f pos')) pos.line X.env = pure false) : PS X (.Assign [.Attribute o f pos'] value pos) (sFldX X.K ta tv f) := by
  intro pins s σ H D I h
  refine plainObj_wpAny_Assign_Attribute (thn (hv pins s σ H _ I h) fun u s1 ⟨y, H1, I1, ry, q⟩ => thn (ha pins s1 σ H1 _ I1 q) fun ov s2 ⟨x, H2, I2, rx, e, C, ex, c, n, q2⟩ => ?_) hs
  subst ex
  obtain rfl : ov = Value.ref e := rx
  rcases q2 with ⟨t, he, z⟩ | ⟨t, d, fs, he, hd, l, z⟩
  · exact setX0 I2 he c n ry fun d s3 hd hne I3 => ⟨σ, _, I3, z d hd hne⟩
  · exact setX I2 he hd c n l ry fun s3 I3 => ⟨σ, _, I3, z⟩
end
noncomputable def tMakeX (n0 : Nat) (C : Addr) (sp : Sp) (E : XK) (t : TA) : TE := fun σ H Q => t σ H fun vs H1 => ∀ x tt, H1 x = none → n0 ≤ x → sp (.ref x :: vs) (upd H1 x (exO x C tt none)) (fun v H2 => v = .non ∧ Q (.ref x) H2) E
section
variable {X : Cx} {CX : CXT} {k : Nat} {f C : Addr} {fd : FuncData} {ps : List Str} {sp : Sp} {E : XK} {x : Str} {p pos : Pos} {e : Expr} {es : List Expr} {t : TA}
theorem run_makeX {pins : List (Addr × Obj)} {σ : St} {H : Hp} {s : Shared} {Q : VK} {us : List Value} {vs : List V} (M : ExcI X.K C f) (F : FnOk X.prog X.w X.K X.mg X.base CX k f fd ps sp) (hr : Room (k + 1) X.A) (hb : Binds X.K fd ps [])
    (hx : Passes CX X E) (I : Inv X pins σ H s) (r : Vals vs us) (hu : us.length ≤ sizeLine)
    (h : ∀ x tt, H x = none → X.s₀.heap.objs.size ≤ x → sp (.ref x :: vs) (upd H x (exO x C tt none)) (fun v H2 => v = .non ∧ Q (.ref x) H2) E) :
    wpAny (model X.prog X.w) X.A (call (.ref C) us) (EP X pins σ Q) X.xe s := by
  have hq := h (s.heap.objs.size + 1) s.heap.objs.size (I.hok.fresh (Nat.le_succ _)) (Nat.le_trans I.sz (Nat.le_succ _))
  have e2 : (newX s.heap C us).get? (s.heap.objs.size + 1) = some (xO C s.heap.objs.size none) := by
    have := Heap.get?_push_size (s.heap.push { cls := .type "tuple", data := .seq us.toArray }) (o := xO C s.heap.objs.size none) rfl
    rwa [Heap.size_push] at this
  have I2 : Inv X pins σ (upd H (s.heap.objs.size + 1) (exO (s.heap.objs.size + 1) C s.heap.objs.size none)) { s with heap := newX s.heap C us } :=
    I.laid (h' := newX s.heap C us) (t' := s.toks) (fun b o q => Heap.get?_push_of_some _ (Heap.get?_push_of_some _ q)) (Nat.le_succ _) (exO_ok e2)
  have r2 : Vals (V.ref (s.heap.objs.size + 1) :: vs) (Value.ref (s.heap.objs.size + 1) :: us) := .cons rfl r
  have hl : ((Value.ref (s.heap.objs.size + 1) :: us) ++ []).length = ps.length := by
    have e := r2.length
    rw [F.len _ _ _ _ hq] at e
    rw [List.append_nil]
    exact e.symm
  obtain ⟨hp, g, d, tk, os⟩ := s
  refine excI_call M I.kIn hu (wpAny_call (codeAny_mono (F.run _ X.stack _ _ ⟨Value.ref (hp.objs.size + 1) :: us, []⟩ (Value.ref (hp.objs.size + 1) :: us) _ _ E (hr.make C us [])
    (I2.env0.make C us []) (by have := hb _ (Value.ref (hp.objs.size + 1) :: us) I2.kIn hl; rwa [List.append_nil] at this) r2 hq) fun r s' hq' => ?_))
  cases r with
  | error e => exact hx pins σ _ _ e s' I2 hq'
  | ok fl =>
    cases fl with
    | ret u =>
      obtain ⟨v, H', I3, rv, ev, q3⟩ := I2.after hq'
      subst ev
      exact ⟨rv, ⟨V.ref (hp.objs.size + 1), H', I3, rfl, q3⟩⟩
    | next => exact False.elim hq'
    | brk => exact False.elim hq'
    | cont => exact False.elim hq'
theorem pe_makeX (M : ExcI X.K C f) (F : FnOk X.prog X.w X.K X.mg X.base CX k f fd ps sp) (hr : Room (k + 1) X.A) (hg : Gl X x) (hm : X.mg x = some (.ref C)) (hb : Binds X.K fd ps []) (hx : Passes CX X E)
    (ha : PA X (e :: es) t) (hlen : ps.length ≤ 1000) (hdb : (x == ("__debug__" : Str)) = false := by decide) (he : starEach (e :: es) X.env = (false, eval e X.env) :: starEach es X.env := by rfl) (hpl : (backTo pos (starEach es X.env)).any (·.1) = false := by rfl) :
    PE X (.Call (.Name x p) (e :: es) [] pos) (tMakeX X.s₀.heap.objs.size C sp E t) := by
  intro pins s σ H Q I h
  refine wpAny_Call_Name_kw (ld_glob I hg hm ?_ hdb)
  refine PySem.W.callWith_K (h₀ := X.base) I.ok.mod.kin M.kp (thn (ha pos pins s σ H _ I h) fun us s1 ⟨vs, H1, I1, r, q⟩ => ⟨I1.kIn, ?_⟩) he hpl
  refine run_makeX M F hr hb hx I1 r ?_ q
  have e1 := F.len _ _ _ _ (q (s1.heap.objs.size) 0 (I1.hok.fresh (Nat.le_refl _)) I1.sz)
  have e2 := r.length
  rw [List.length_cons] at e1
  rw [List.nil_append, sizeLine_eq]; (first | lia | omega)
end
end L2
set_option Elab.async false
set_option linter.all false
set_option maxRecDepth 100000
set_option maxHeartbeats 4000000
namespace L2
open PySem PySem.Spec PyProof.Rows
noncomputable def dropH (H : Hp) (e : Addr) : Hp := fun b => if b = e then none else H b
theorem dropH_same {H : Hp} {e : Addr} : dropH H e e = none := if_pos rfl
theorem dropH_ne {H : Hp} {e b : Addr} (h : b ≠ e) : dropH H e b = H b := if_neg h
noncomputable def CXD (P : Program) (w : World) : CXT := fun outer H s E e s' => ∃ a cls d H', e = .ref a ∧ Fly P w outer H s a cls H' s' ∧ DictAt a d s'.heap ∧ E cls d H'
section
variable {X : Cx} {pins : List (Addr × Obj)} {σ : St} {H H' : Hp} {s s' : Shared} {cls : Value} {e : Addr} {Q : Unit → Shared → Prop} {E' : Value → Shared → Prop}
theorem HOk.drop {P : Program} {w : World} {h : Heap} {C t : Addr} {d : Option Addr} (ok : HOk P w H h) (heX : H e = some (exO e C t d)) : HOk P w (dropH H e) h := fun a o q => by
  have hne : a ≠ e := fun z => by rw [z, dropH_same] at q; cases q
  rw [dropH_ne hne] at q
  refine (ok a o q).stay (fun _ _ _ z => z) (fun b z => ?_) fun b xs z => ?_
  · have : b ≠ e := fun y => by rw [y, heX] at z; cases z
    rw [dropH_ne this]; exact z
  · have : b ≠ e := fun y => by rw [y, heX] at z; cases z
    rw [dropH_ne this]; exact z
theorem raise_outX {C t : Addr} {d : Option Addr} (I : Inv X pins σ H s) (hs : X.stack = X.env :: X.outer) (hf : X.env.frame = some X.env.locals) (hex : X.ex = []) (heX : H e = some (exO e C t d)) (hn0 : X.s₀.heap.objs.size ≤ e)
    (k : ∀ h', Fly X.prog X.w X.outer X.H₀ X.s₀ e (.ref C) (dropH H e) { s with heap := h' } → DictAt e d h' → Q () { s with heap := h' }) : wpAny (model X.prog X.w) X.A (leaving X.env (.ref e)) Q E' s := by
  have st : s.heap.FunFrames X.base X.stack := I.stack
  have hx := exO_get (I.hok _ _ heX)
  have hin : ∀ env ∈ X.stack, ∀ b, env.frame = some b → b ∈ e :: frs X.stack := fun env he' b hb => List.mem_cons_of_mem _ (List.mem_filterMap.mpr ⟨env, he', hb⟩)
  have fB := PySem.W.funFrames_hide (as := e :: frs X.stack) st hin
  have hfr := I.ok.frames
  rw [hs] at hfr fB
  have hB : (PySem.W.hideAll s.heap (e :: frs X.stack)).StaysIn s.heap := fun b o q => PySem.W.of_hideAll _ q
  have hBe : (PySem.W.hideAll s.heap (e :: frs X.stack)).get? e = none := PySem.W.hideAll_none _ List.mem_cons_self
  refine wpAny_mono (KD.any (e := e) (d := d) KD.leaving ⟨_, hx, rfl⟩ (wpAny_leaving_firstW (Q := fun _ s' => ∃ h', s' = { s with heap := h' } ∧ Heap.LeftW (PySem.W.hideAll s.heap (e :: frs X.stack)) (X.env :: X.outer) e (.ref C) (.ref t) s.heap h') (E := E')
    hfr (by rw [hs] at *; exact fB) hf hx (by rw [hs] at *; exact hB) (by rw [hs] at *; exact hBe) rfl rfl rfl fun h' z => ⟨h', rfl, by rw [hs] at *; exact z⟩)) (fun _ s' z => ?_) fun _ _ z => z
  obtain ⟨⟨h', rfl, L1, L2', L3, L4⟩, hD⟩ := z
  have x1 : Heap.FlyingW (PySem.W.hideAll s.heap (e :: frs X.stack)) X.outer e (.ref C) (.ref t) h' := ⟨L1, hBe, L2'.2.2, L3⟩
  refine k h' ?_ hD
  have nex : ∀ b, b ∉ X.ex := fun b hb => by rw [hex] at hb; cases hb
  have notE : ∀ b o, X.s₀.heap.get? b = some o → b ≠ e := fun b o q z => absurd (Nat.lt_of_lt_of_le (Heap.lt_size q) hn0) (by rw [z]; exact Nat.lt_irrefl _)
  have kB : ∀ b o, s.heap.get? b = some o → b ≠ e → b ∉ frs X.stack → (PySem.W.hideAll s.heap (e :: frs X.stack)).get? b = some o := fun b o q n1 n => PySem.W.hideAll_get _ q fun z => (List.mem_cons.mp z).elim n1 n
  have kS : ∀ b o, s.heap.get? b = some o → b ∈ frs X.stack → ∃ sl, h'.get? b = some { o with slots := sl } := fun b o q hb => L4 b o q (by
    obtain ⟨_, o', ho', hd⟩ := st.mem hb
    rw [q] at ho'; cases ho'; exact hd)
  have kT : ∀ b u, H b = some u → b ∉ frs X.stack := fun b u q hb => by
    have := I.stkFree b hb
    rw [q] at this; cases this
  have up : ∀ {b : Addr}, b ∈ X.fs → b ∈ frs X.stack := fun hb => by rw [hs]; exact frs_cons hb
  have tr : ∀ b u, dropH H e b = some u → b ≠ e ∧ H b = some u := fun b u q => by
    have n : b ≠ e := fun z => by rw [z, dropH_same] at q; cases q
    rw [dropH_ne n] at q
    exact ⟨n, q⟩
  have dr : ∀ b u, H b = some u → (∀ φ, u ≠ .ext φ) → dropH H e b = some u := fun b u q n => by
    have : b ≠ e := fun y => by rw [y, heX] at q; cases q; exact n _ rfl
    rw [dropH_ne this]; exact q
  refine ⟨I.os, I.bare, ⟨fun b o q n hb _ => ?_, fun b o q n hb _ => ?_, fun b o q n _ => ?_, fun b o q _ => ?_, fun b xs q => dr _ _ (I.base.tups b xs q) (fun _ z => by cases z), fun b o u q => dr _ _ (I.base.frzs b o u q) (fun _ z => by cases z), fun b ps q => ?_⟩,
    (HOk.drop I.hok heX).tracked fun b u o q z => x1.1 b o (kB b o z (tr b u q).1 (kT b u (tr b u q).2)), _, _, x1, fun b o q n hb => ?_, fun b o q hb => ?_, fun b u q => ?_⟩
  · exact x1.1 b o (kB b o (I.base.keep b o q n hb (nex b)) (notE b o q) (I.notOwn q hb))
  · obtain ⟨sl, e1⟩ := I.base.slot b o q n hb (nex b)
    obtain ⟨sl', e2⟩ := kS b _ e1 (up hb)
    exact ⟨sl', e2⟩
  · rw [dropH_ne (notE b o q)]; exact I.base.free b o q n (nex b)
  · obtain ⟨o', e1⟩ := I.base.there b o q (nex b)
    by_cases hm : b ∈ frs X.stack
    · obtain ⟨sl, e2⟩ := kS b o' e1 hm; exact ⟨_, e2⟩
    · exact ⟨o', x1.1 b o' (kB b o' e1 (notE b o q) hm)⟩
  · obtain ⟨m, e1⟩ := I.base.tbls b ps q
    exact ⟨m, dr _ _ e1 (fun _ z => by cases z)⟩
  · exact kB b o (I.base.keep b o q n hb (nex b)) (notE b o q) (I.notOwn q hb)
  · obtain ⟨o', e1⟩ := I.base.there b o q (nex b)
    exact ⟨o', kB b o' e1 (notE b o q) (I.notOwn q hb)⟩
  · obtain ⟨o, e1⟩ := (I.hok b u (tr b u q).2).isThere
    exact ⟨o, kB b o e1 (tr b u q).1 (kT b u (tr b u q).2)⟩
end
section
variable {M : Model} {A : Around} {E : Value → Shared → Prop} {env : Env}
variable {nm q : Str} {C N : Addr} {bs tl0 : List Value} {hdct : Bool} {sn : List Str} {sub : List Value} {ab : Bool} {col : Option Bool} {dd : Option Addr} {k0 k1 k2 k3 k5 : Option Value} {newId : String}
theorem raise_made {s : Shared} {Q : Flow → Shared → Prop} {e t : Addr} {d : Option Addr} (hbase : tl0.contains (.type "BaseException") = true) (hh : A.handled = none) (hC : s.heap.get? C = some (excClassObj nm q C N bs tl0 hdct sn sub ab col dd k0 k1 k2 k3 k5 newId))
    (heX : s.heap.get? e = some (xO C t d)) (hE : E (.ref e) s) : wpAny M A (raiseStmt env (some (pure (.ref e))) none) Q E s := by
  have hIn : (Value.ref C :: tl0).contains (.type "BaseException") = true := by rw [List.contains_cons, hbase, Bool.or_true]
  unfold raiseStmt
  refine wpAny_bind (wpAny_pure ?_)
  obtain ⟨hp0, g, dr, tk0, os⟩ := s
  repeat (first | with_reducible refine wpAny_loadPart_at heX ?_ | with_reducible refine wpAny_loadPart_at hC ?_ | (with_reducible refine wpAny_isSubtype_exc hC ?_; rw [hIn]) | wp_step)
  exact wpAny_raiseNew_none hh hE
theorem raise_any {s : Shared} {Q : Flow → Shared → Prop} {x : Sem Value} (h : wpAny M A x (fun v s₁ => wpAny M A (raiseStmt env (some (pure v)) none) Q E s₁) E s) : wpAny M A (raiseStmt env (some x) none) Q E s := by
  unfold raiseStmt at h ⊢
  refine wpAny_bind (wpAny_mono h (fun v s₁ z => ?_) fun _ _ z => z)
  exact z
end
section
variable {X : Cx} {ex : Expr} {pos : Pos} {E : XK} {ta : TE}
theorem ps_raiseX (hxe : X.xe = fun e s' => wpAny (model X.prog X.w) X.A (leaving X.env e) (fun _ s'' => CXD X.prog X.w X.outer X.H₀ X.s₀ E e s'') (fun e' s'' => CXD X.prog X.w X.outer X.H₀ X.s₀ E e' s'') s')
    (hs : X.stack = X.env :: X.outer) (hf : X.env.frame = some X.env.locals) (hex : X.ex = []) (hc : X.calm = true) (ha : PE X ex ta) :
    PS X (.Raise (some ex) none pos) (fun _ σ H => ta σ H fun x H2 => ∃ e C f t d, x = .ref e ∧ X.s₀.heap.objs.size ≤ e ∧ ExcI X.K C f ∧ H2 e = some (exO e C t d) ∧ E (.ref C) d (dropH H2 e)) := by
  intro pins s σ H D I h
  rw [arm_exec_Raise]
  refine wpAny_bind (wpAny_standAt (raise_any (wpAny_bind (thn (ha pins s σ H _ I h) fun u s1 ⟨x, H1, I1, rx, e, C, f, t, d, hx, hn, c, heX, q⟩ => wpAny_bind (wpAny_standAt (wpAny_pure ?_))))))
  subst hx
  obtain rfl : u = Value.ref e := rx
  obtain ⟨tl0, N, nm, q', bs, hdct, sn, sub, ab, col, dd, k0, k1, k2, k3, k5, hC, T⟩ := c.obj I1.kIn
  refine raise_made (T.hasType PySem.F.excBase_ValueError.hasBase) (I1.ok.hd hc) hC (exO_get (I1.hok _ _ heX)) ?_
  rw [hxe]
  exact raise_outX I1 hs hf hex heX hn fun h' F hD => ⟨e, _, d, _, rfl, F, hD, q⟩
end
end L2
set_option Elab.async false
set_option linter.all false
set_option maxRecDepth 100000
set_option maxHeartbeats 4000000
namespace L2
open PySem PySem.Spec PyProof.Rows
noncomputable def LandsD (X : Cx) (E : XK) : Value → Shared → Prop := fun v s' => ∃ pins σ H s e cls d H', v = .ref e ∧ Inv X pins σ H s ∧ Fly X.prog X.w X.stack H s e cls H' s' ∧ DictAt e d s'.heap ∧ E cls d H'
theorem pass_landsD {X : Cx} {E : XK} : Passes (CXD X.prog X.w) (X.wish (LandsD X E)) E := by
  intro pins σ H s e s' I h
  obtain ⟨a, cls, d, H', rfl, F, hd, q⟩ := h
  exact ⟨pins, σ, H, s, a, cls, d, H', rfl, I.unwish, F, hd, q⟩
section
variable {X : Cx} {E : XK} {R : VK} {y n : Str} {i : Nat} {Cy : Addr} {b₀ : Stmt} {suite : List Stmt} {np hp : Pos} {tS : Addr → Obj → TS}
theorem catch_asD (hs : X.stack = X.env :: X.outer) (hf : X.env.frame = some X.env.locals) (hpn : X.pn = []) (hcalm : X.calm = true) (hy : Gl X y) (hm : X.mg y = some (.ref Cy)) (hN : X.N.Nodup) (hi : X.N[i]? = some n) (hn : X.env.scope.names.lookup n = some .local)
    (hk : ∀ cls d H', E cls d H' → PySem.W.exmOne X.K cls (.ref Cy) = some true) (hS : ∀ e oe, PSs (X.within e oe) (b₀ :: suite) (tS e oe))
    (q : ∀ e oe cls d H', oe.cls = cls → oe.dict = d → PySem.W.notCls oe = true → E cls d H' → tS e oe { nx := fun _ _ => False, rt := R } ((List.replicate X.N.length none).set i (some (.ref e))) H') (hdb : (y == ("__debug__" : Str)) = false) {D : Ends} (hD : D.rt = R) {v : Value} {s' : Shared} (h : LandsD X E v s') :
    wpAny (model X.prog X.w) X.A (noteFrame v X.env) (fun _ s₂ => wpAny (model X.prog X.w) X.A (setFlight v none) (fun _ s₃ => wpAny (model X.prog X.w) X.A (handleBy v X.env [.ExceptHandler (some (.Name y np)) (some n) (b₀ :: suite) hp]) (SP X [] D) X.xe s₃) X.xe s₂) X.xe s' := by
  obtain ⟨pins, σ, H, s, e, cls, d, H', rfl, I, F, hd0, qE⟩ := h
  obtain ⟨B, a0, hfl, g1, g2, g3⟩ := F.fly
  have hfr := I.ok.frames
  have hfl1 := hfl
  rw [hs] at hfr hfl1
  have heH : H' e = none := by
    cases z : H' e with
    | none => rfl
    | some u =>
      obtain ⟨o, e1⟩ := g3 e u z
      rw [hfl.2.1] at e1; cases e1
  have obj : ∀ {h : Heap}, Heap.FlyingW B (X.env :: X.outer) e cls a0 h → DictAt e d h → Inv X pins σ H' { s' with heap := h } → ∃ oe, oe.cls = cls ∧ oe.dict = d ∧ PySem.W.notCls oe = true ∧ h.get? e = some oe ∧ ∀ {pins' σ'}, Inv X pins' σ' H' { s' with heap := h } → Inv (X.within e oe) pins' σ' H' { s' with heap := h } := fun {h} fl dA J => by
    obtain ⟨oe, vs, ho, hc, hd, _⟩ := fl.first
    obtain ⟨o2, ho2, hd2⟩ := dA
    rw [ho] at ho2; cases ho2
    refine ⟨oe, hc, hd2, ?_, ho, fun J' => J'.within ho heH ?_ ?_ ?_⟩
    · unfold PySem.W.notCls; rw [hd]
    · intro z
      obtain ⟨m, ⟨o2, es, ep, ho2, hd2, _⟩, _⟩ := J'.loc
      rw [← z, ho] at ho2; cases ho2
      rw [hd] at hd2; cases hd2
    · intro z
      obtain ⟨_, o2, ho2, hd2⟩ := J'.funs.mem z
      rw [ho] at ho2; cases ho2
      exact hd2 _ hd
    · intro v z
      rw [hd] at z; cases z
  refine wpAny_mono (KD.any KD.noteFrame hd0 (wpAny_looks_onW (Q := fun _ s₂ => ∃ h₄, s₂ = { s' with heap := h₄ } ∧ Heap.HeldW B (X.env :: X.outer) e cls a0 X.env.locals h₄ ∧ s'.heap.UpToSlots h₄) hfr hf hfl1 fun h₄ u1 u2 => ⟨h₄, rfl, u1, u2⟩)) (fun _ s₂ z2 => ?_) fun _ _ z => z
  obtain ⟨⟨h₄, rfl, held₄, sm₄⟩, hd4⟩ := z2
  refine wpAny_mono (KD.any KD.setFlight hd4 (wpAny_landsW (s := { s' with heap := h₄ }) (Q := fun _ s₂ => ∃ h₅, s₂ = { s' with heap := h₅ } ∧ Heap.FlyingW B (X.env :: X.outer) e cls a0 h₅ ∧ h₄.UpToSlots h₅) held₄ fun h₅ u1 u2 => ⟨h₅, rfl, u1, u2⟩)) (fun _ s₂ z2 => ?_) fun _ _ z => z
  obtain ⟨⟨h₅, rfl, fl₅, sm₅⟩, hd5⟩ := z2
  have I5 : Inv X pins σ H' { s' with heap := h₅ } := I.landed F hfl g1 g2 g3 fl₅.1 (sm₄.trans sm₅)
  obtain ⟨o5, c5, d5, nc5, he5, w5⟩ := obj fl₅ hd5 I5
  have LT : PySem.W.Looks (model X.prog X.w) h₅ (typeOf (.ref e)) cls := c5 ▸ (PySem.W.Looks.ld he5).andThen .now
  refine wpAny_handleBy_cons (codeAny_handlers_test (ld_glob (X := X.within e o5) (w5 I5) hy hm ?_ hdb)) (by intro z; cases z)
  refine (PySem.W.exm_one (M := model X.prog X.w) I5.kIn LT (hk cls d H' qE)).here ?_
  refine codeAny_handlers_suite_as (wpAny_mono (KD.any KD.setFlight hd5 (lands_againW (s := { s' with heap := h₅ }) (Q := fun _ s₂ => ∃ h₆, s₂ = { s' with heap := h₆ } ∧ Heap.FlyingW B (X.env :: X.outer) e cls a0 h₆ ∧ h₅.UpToSlots h₆) fl₅ fun h₆ u1 u2 => ⟨h₆, rfl, u1, u2⟩)) (fun _ s₂ z2 => ?_) fun _ _ z => z)
  obtain ⟨⟨h₆, rfl, fl₆, sm₆⟩, hd6⟩ := z2
  have I6 : Inv X pins σ H' { s' with heap := h₆ } := I.landed F hfl g1 g2 g3 fl₆.1 ((sm₄.trans sm₅).trans sm₆)
  obtain ⟨o6, c6, d6, nc6, he6, w6⟩ := obj fl₆ hd6 I6
  have I6' : Inv X [] (List.replicate X.N.length none) H' { s' with heap := h₆ } := (I6.pins_of (pins' := []) fun p z => nomatch z).weak (by rw [List.length_replicate]; exact I6.len.symm) fun j v z => by
    rw [List.getElem?_replicate] at z
    split at z <;> cases z
  refine store_ok (X := X.within e o6) (w6 I6') hN hi (.inl hn) (v := .ref e) rfl (fun s₇ I7 => ?_) (.inr hn)
  refine wpAny_mono (hS e o6 [] s₇ _ H' _ I7 (q e o6 cls d H' c6 d6 nc6 qE)) (fun f s₈ h8 => ?_) fun _ _ z => False.elim z
  have fin : ∀ {σ8 : St} {H8 : Hp}, Inv (X.within e o6) [] σ8 H8 s₈ → (∀ s9, Inv X [] (List.replicate X.N.length none) H8 s9 → SP X [] D f s9) → wpAny (model X.prog X.w) X.A (do bindName X.env n .none; unbindBehindTheSuite X.env n hp) (fun _ s₃ => SP X [] D f s₃) X.xe s₈ := fun {σ8 H8} I8 k => by
    obtain ⟨m, hm8, _⟩ := I8.loc
    exact wpAny_nameGoes hn hm8 (by rw [I.ok.kind]; rfl) fun h' m' hN' hs' => k _ (Inv.suiteOver (I.ok.hd hcalm) I8 hpn hN' hs')
  cases f with
  | next => obtain ⟨σ8, H8, I8, z⟩ := h8; exact False.elim z
  | brk => obtain ⟨σ8, H8, I8, z⟩ := h8; exact False.elim z
  | cont => obtain ⟨σ8, H8, I8, z⟩ := h8; exact False.elim z
  | ret u =>
    obtain ⟨v8, σ8, H8, I8, r8, z⟩ := h8
    exact fin I8 fun s9 I9 => ⟨v8, _, H8, I9, r8, by rw [hD]; exact z⟩
end
noncomputable def tFldE (K : PySem.W.Frag) (e : Addr) (oe : Obj) (ta : TE) (f : Str) : TE := fun σ H Q => ta σ H fun x H1 => ∃ C d fs v, x = .ref e ∧ oe.cls = .ref C ∧ oe.dict = some d ∧ PySem.W.notCls oe = true ∧ ExcA K C ∧ NoAttr K C f ∧ H1 d = some (xdO d fs) ∧ fs.lookup f = some v ∧ Q v H1
theorem pe_fldE {X : Cx} {e : Addr} {oe : Obj} {ex : Expr} {f : Str} {pos : Pos} {ta : TE} (he : PE (X.within e oe) ex ta) (hb : attributeBase ex f X.env (eval ex X.env) = eval ex X.env) : PE (X.within e oe) (.Attribute ex f pos) (tFldE X.K e oe ta f) := by
  intro pins s σ H Q I h
  refine attr_of hb (thn (he pins s σ H _ I h) fun u s1 ⟨x, H1, I1, rx, C, d, fs, v, hx, hc, hd, nc, c, n, hd1, l, q⟩ => ?_)
  subst hx
  obtain rfl : u = Value.ref e := rx
  have hp : s1.heap.get? e = some oe := (I1.pin (e, oe) (List.mem_append_left _ List.mem_cons_self)).1
  obtain ⟨mA, hn, r, wi⟩ := xdO_get (I1.hok _ _ hd1)
  obtain ⟨od, ho, hl⟩ := lookIn_ns hn
  obtain ⟨u, hu, ru⟩ := RelO.some_of (v := v) (o := mA f) (by rw [← l]; exact r f)
  have J : PySem.W.InstAt s1.heap e oe C (some od) := ⟨hp, hc, nc, by rw [hd]; exact ho⟩
  exact exc_attr I1.kIn c J (PySem.W.findObj_own c.hd n rfl (by rw [hl, hu])) (handed_of ru) ⟨v, H1, I1.tok _, ru, q⟩
section
variable {P : Program} {w : World} {K : PySem.W.Frag} {mg : Str → Option Value} {base : Heap}
theorem Fun.okD {x qual : Str} {st : Stmt} {f : Addr} {fd : FuncData} {N ps : List Str} {k : Nat} {sp : Sp} (F : Fun K x qual st f fd) (S : FnScope N ps (defScope st)) (len : ∀ vs H Q E, sp vs H Q E → vs.length = ps.length)
    (hbody : ∀ (cdv : Value) (A : Around) (outer : List Env) (s : Shared) (H : Hp) (vs : List V) (Q : VK) (E : XK), Room k (A.deeper (envOfC qual (defScope st) s.heap.objs.size f cdv)) → sp vs H Q E →
      ∃ t, PSs (cxOf (CXD P w) P w K mg base N qual (defScope st) f cdv A outer s H E) (defBody st) t ∧ t { nx := fun _ H' => Q .non H', rt := Q } (start N vs) H) : FnOk P w K mg base (CXD P w) (k + 1) f fd ps sp := by
  obtain ⟨oc, od, kV, doc, pm, an, cdv, ct, osl, rfl, lk, hcd⟩ := F.ex
  exact fn_of lk hcd S len fun A outer s H vs Q E hr hsp => hbody cdv A outer s H vs Q E hr hsp
theorem Fun.okTryD {x qual : Str} {st : Stmt} {f : Addr} {fd : FuncData} {N ps : List Str} {k : Nat} {sp : Sp} {body rest : List Stmt} {y n : Str} {i : Nat} {Cy : Addr} {b₀ : Stmt} {suite : List Stmt} {np hp pos : Pos} (F : Fun K x qual st f fd) (S : FnScope N ps (defScope st)) (len : ∀ vs H Q E, sp vs H Q E → vs.length = ps.length)
    (hst : defBody st = .Try body [.ExceptHandler (some (.Name y np)) (some n) (b₀ :: suite) hp] [] [] pos :: rest) (hy : (defScope st).names.lookup y = some .globalImplicit) (hm : mg y = some (.ref Cy)) (hi : N[i]? = some n) (hn : (defScope st).names.lookup n = some .local) (hdb : (y == ("__debug__" : Str)) = false)
    (hbody : ∀ (cdv : Value) (A : Around) (outer : List Env) (s : Shared) (H : Hp) (vs : List V) (Q : VK) (E : XK), Room k (A.deeper (envOfC qual (defScope st) s.heap.objs.size f cdv)) → sp vs H Q E →
      ∃ (EX : XK) (t : TS) (tS : Addr → Obj → TS) (tR : TS), PSs ((cxOf CX0 P w K mg base N qual (defScope st) f cdv A outer s H E).nox.wish (LandsD (cxOf CX0 P w K mg base N qual (defScope st) f cdv A outer s H E).nox EX)) body t ∧
        (∀ e oe, PSs ((cxOf CX0 P w K mg base N qual (defScope st) f cdv A outer s H E).nox.within e oe) (b₀ :: suite) (tS e oe)) ∧ PSs (cxOf CX0 P w K mg base N qual (defScope st) f cdv A outer s H E).nox rest tR ∧
        t { nx := fun σ H' => tR { nx := fun _ H' => Q .non H', rt := Q } σ H', rt := Q } (start N vs) H ∧
        (∀ cls d H', EX cls d H' → PySem.W.exmOne K cls (.ref Cy) = some true) ∧ ∀ e oe cls d H', oe.cls = cls → oe.dict = d → PySem.W.notCls oe = true → EX cls d H' → tS e oe { nx := fun _ _ => False, rt := Q } ((List.replicate N.length none).set i (some (.ref e))) H') : FnOk P w K mg base CX0 (k + 1) f fd ps sp := by
  obtain ⟨oc, od, kV, doc, pm, an, cdv, ct, osl, rfl, lk, hcd⟩ := F.ex
  refine ⟨len, fun A outer s H args us vs Q E hr e0 hb r hsp => ?_⟩
  obtain ⟨EX, t, tS, tR, h1, h2, hR, h3, h4, h5⟩ := hbody cdv A outer s H vs Q E (hr.deeper _) hsp
  have key : ∀ (s1 : Shared), Inv (cxOf CX0 P w K mg base N qual (defScope st) f cdv A outer s H E).nox [] (start N vs) H s1 →
      wpAny (model P w) (A.deeper (envOfC qual (defScope st) s.heap.objs.size f cdv)) (execs (defBody st) (envOfC qual (defScope st) s.heap.objs.size f cdv)) (SP (cxOf CX0 P w K mg base N qual (defScope st) f cdv A outer s H E).nox [] { nx := fun _ H' => Q .non H', rt := Q }) (fun _ _ => False) s1 := fun s1 I => by
    rw [hst]
    refine wpAny_execs_cons (thn (Q := SP (cxOf CX0 P w K mg base N qual (defScope st) f cdv A outer s H E).nox [] { nx := fun σ H' => tR { nx := fun _ H' => Q .non H', rt := Q } σ H', rt := Q }) (wpAny_Try_except (wpAny_mono (h1 [] s1 (start N vs) H { nx := fun σ H' => tR { nx := fun _ H' => Q .non H', rt := Q } σ H', rt := Q } (I.wish _) h3) (fun fl s2 q2 => ?_) fun v s2 q2 => ?_)) fun fl s2 q2 => ?_)
    · have q3 := SP.unwish q2
      cases fl with
      | next => exact wpAny_execs_nil q3
      | ret u => exact q3
      | brk => exact q3
      | cont => exact q3
    · exact catch_asD (X := (cxOf CX0 P w K mg base N qual (defScope st) f cdv A outer s H E).nox) (R := Q) rfl rfl rfl rfl hy hm S.nd hi hn h4 h2 h5 hdb rfl q2
    · cases fl with
      | next =>
        obtain ⟨σ2, H2, I2, z⟩ := q2
        exact hR [] s2 σ2 H2 _ I2 z
      | ret u => exact q2
      | brk => obtain ⟨σ2, H2, I2, z⟩ := q2; exact False.elim z
      | cont => obtain ⟨σ2, H2, I2, z⟩ := q2; exact False.elim z
  have hl := len _ _ _ _ hsp
  have KX : K.In s.heap := e0.mod.kin.keeps fun b o e => (e0.bs b o e).1
  have lim : s.heap.NoLimit := e0.mod.nolimit.keeps fun b o e => (e0.bs b o e).1
  have hkind : ∀ z ∈ ps.zip us, (defScope st).names.lookup z.1 = some .local ∨ ((defScope st).names.lookup z.1 = some .cell ∧ ((cellsFrom (s.heap.objs.size + 1) (defScope st).names []).lookup z.1).isSome = true) := fun ⟨n, v⟩ hy => by
    rcases S.par n (List.of_mem_zip hy).1 with q | q
    · exact .inl q
    · exact .inr ⟨q, PySem.W.cellsFrom_some _ _ _ (.inl q)⟩
  refine codeAny_call_function hr.depth (KX _ _ lk) rfl S.co S.gen rfl (PySem.W.codeRec_of KX hcd) (hb _ _ _ _ ?_)
  refine wpAny_newFunctionEnv_cells S.kind hkind fun env he s1 x => ?_
  subst he
  refine ⟨lim.keeps x.toInCall.keep, codeAny_func ?_⟩
  have I : Inv (cxOf CX0 P w K mg base N qual (defScope st) f cdv A outer s H E) [] (start N vs) H s1 := inv_start S hr.hd e0 hl r x
  refine wpAny_mono (key s1 (I.wish _)) (fun fl s' hs => ?_) fun e s' hs => hs.elim
  have fin : ∀ {σ' : St} {H' : Hp} {v : V} {u : Value}, Inv (cxOf CX0 P w K mg base N qual (defScope st) f cdv A outer s H E).nox [] σ' H' s' → RelV v u → Q v H' → CE outer P w H s Q u s' :=
    fun {σ' H' v u} J rv q => ⟨v, H', J.os, J.bare, J.base, J.hok, rv, q⟩
  cases fl with
  | ret u =>
    obtain ⟨v, σ', H', J, rv, q⟩ := hs
    exact fin J rv q
  | next =>
    obtain ⟨σ', H', J, q⟩ := hs
    exact fin (v := V.non) (u := Value.none) J rfl q
  | brk =>
    obtain ⟨_, _, _, q⟩ := hs
    exact False.elim q
  | cont =>
    obtain ⟨_, _, _, q⟩ := hs
    exact False.elim q
end
end L2
set_option Elab.async false
set_option linter.all false
set_option maxRecDepth 100000
set_option maxHeartbeats 4000000
namespace M05
open PySem L2 PyProof.Rows
noncomputable def top (i : Nat) : Stmt := PySem.Challenge.pw_meadshares_k05_whole_all_is_shared.main.body.getD i (.Pass ⟨0, 0, 0, 0⟩)
noncomputable abbrev sNumber : Stmt := top 10
noncomputable abbrev sWithin : Stmt := top 11
noncomputable abbrev sTuple : Stmt := top 12
noncomputable abbrev sRising : Stmt := top 13
noncomputable abbrev sCustom : Stmt := top 20
noncomputable abbrev sClaim : Stmt := top 21
noncomputable abbrev sClaims : Stmt := top 22
noncomputable abbrev sChkCustom : Stmt := top 23
noncomputable abbrev sChkClaims : Stmt := top 25
noncomputable abbrev sStand : Stmt := top 26
noncomputable abbrev sChkUnder : Stmt := top 27
noncomputable abbrev sIsHolder : Stmt := top 28
noncomputable abbrev sChkHolder : Stmt := top 29
noncomputable abbrev sHoldersOf : Stmt := top 31
noncomputable abbrev sTogether : Stmt := top 32
noncomputable abbrev sCountOf : Stmt := top 33
noncomputable abbrev sFraction : Stmt := top 34
noncomputable abbrev sShareOf : Stmt := top 35
structure Txt (mg : Str → Option Value) : Prop where
  isinstance : mg "isinstance" = none
  int : mg "int" = none
  bool : mg "bool" = none
  tuple : mg "tuple" = none
  len : mg "len" = none
  all : mg "all" = none
  any : mg "any" = none
  zip : mg "zip" = none
  range : mg "range" = none
  sum : mg "sum" = none
  max : mg "max" = none
  sorted : mg "sorted" = none
  sorts : ∃ t, mg "MOST_SORTS" = some (.int 6 t)
  counted : ∃ t, mg "MOST_COUNTED" = some (.int 100 t)
  holders : ∃ t, mg "MOST_HOLDERS" = some (.int 4 t)
  rights : ∃ t, mg "MOST_RIGHTS" = some (.int 20 t)
  claims : ∃ t, mg "MOST_CLAIMS" = some (.int 12 t)
structure At (P : Program) (w : World) (K : PySem.W.Frag) (mg : Str → Option Value) (base : Heap) (k : Nat) (x : Str) (f : Addr) (fd : FuncData) (ps : List Str) (sp : Sp) : Prop where
  nm : mg x = some (.ref f)
  kp : PySem.W.keepIn K (.ref f) = true
  bd : L2.Binds K fd ps []
  ok : FnOk P w K mg base CX0 k f fd ps sp
noncomputable def spNumber : Sp := fun vs H Q _ => ∃ v, vs = [v] ∧ Kn H 1 v ∧ Q (.bl (isInt v)) H
noncomputable def spWithin : Sp := fun vs H Q _ => ∃ v lo hi, vs = [v, .int lo, .int hi] ∧ Kn H 1 v ∧ Q (.bl (numIn lo hi v)) H
noncomputable def tupIn (H : Hp) (lo hi : Int) (v : V) : Bool := match tupOf H v with | some xs => decide (lo ≤ xs.length) && decide ((xs.length : Int) ≤ hi) | none => false
noncomputable def spTuple : Sp := fun vs H Q _ => ∃ v lo hi, vs = [v, .int lo, .int hi] ∧ Kn H 1 v ∧ Q (.bl (tupIn H lo hi v)) H
section
variable {P : Program} {w : World} {K : PySem.W.Frag} {mg : Str → Option Value} {base : Heap}
theorem scNumber : FnScope ["thing"] ["thing"] (defScope sNumber) := ⟨rfl, rfl, rfl, by decide +kernel, rfl, by decide +kernel, by decide +kernel⟩
theorem ok_number {f : Addr} {fd : FuncData} (F : Fun K "is_number" "is_number" sNumber f fd) (T : Txt mg) : FnOk P w K mg base CX0 1 f fd ["thing"] spNumber := by
  refine F.ok scNumber (fun vs H Q E h => ?_) (fun cdv A outer s H vs Q E hr h => ?_)
  · obtain ⟨v, rfl, _⟩ := h; rfl
  · obtain ⟨v, rfl, k, q⟩ := h
    refine ⟨_, pss_one (ps_ret (pe_and (pe_callB call_isinst rfl T.isinstance boot_isinstance (pa_cons (pv 0) (pa_cons (pe_bltn (v := .ty "int") rfl T.int boot_int rfl) pa_nil)))
      (pe_one (pe_not (pe_callB call_isinst rfl T.isinstance boot_isinstance (pa_cons (pv 0) (pa_cons (pe_bltn (v := .ty "bool") rfl T.bool boot_bool rfl) pa_nil))))))), ?_⟩
    obtain ⟨t, ty, k1, k2, _⟩ := ty_of (K := K) k
    refine ⟨_, rfl, _, "int", t, _, rfl, ty, k1, _, rfl, iteB (fun e => ?_) fun e => ?_⟩
    · refine ⟨_, rfl, _, "bool", t, _, rfl, ty, k2, _, rfl, ?_⟩
      have : (!isBl v) = isInt v := by cases v <;> first | rfl | cases e
      rw [this]; exact q
    · have : isInt v = false := (Bool.or_eq_false_iff.mp e).1
      rw [this] at q; exact q
theorem scWithin : FnScope ["thing", "least", "most"] ["thing", "least", "most"] (defScope sWithin) := ⟨rfl, rfl, rfl, by decide +kernel, rfl, by decide +kernel, by decide +kernel⟩
theorem ok_within {f g : Addr} {fd gd : FuncData} (F : Fun K "is_number_within" "is_number_within" sWithin f fd) (T : Txt mg) (G : Fun K "is_number" "is_number" sNumber g gd) (b : Binds K gd ["thing"] []) (m : mg "is_number" = some (.ref g)) : FnOk P w K mg base CX0 2 f fd ["thing", "least", "most"] spWithin := by
  have GN : FnOk P w K mg base CX0 1 g gd ["thing"] spNumber := ok_number G T
  refine F.ok scWithin (fun vs H Q E h => ?_) (fun cdv A outer s H vs Q E hr h => ?_)
  · obtain ⟨v, lo, hi, rfl, _⟩ := h; rfl
  · obtain ⟨v, lo, hi, rfl, k, q⟩ := h
    refine ⟨_, pss_one (ps_ret (pe_and (pe_call GN hr rfl m G.kp b .nil pass0 (pa_cons (pv 0) pa_nil)) (pe_one (pe_chain op_le op_le (pv 1) (pv 0) (pv 2))))), ?_⟩
    refine ⟨_, rfl, v, rfl, k, _, rfl, iteB (fun e => ?_) fun e => ?_⟩
    · cases v with
      | int i =>
        refine ⟨_, rfl, _, rfl, _, _, rfl, rfl, _, rfl, ite2d (fun h1 => ?_) fun h1 => ?_⟩
        · refine ⟨_, rfl, _, _, rfl, rfl, ?_⟩
          have : numIn lo hi (.int i) = decide (i ≤ hi) := by simp [numIn, h1]
          rw [this] at q; exact q
        · have : numIn lo hi (.int i) = false := by simp [numIn, h1]
          rw [this] at q; exact q
      | _ => cases e
    · have : numIn lo hi v = false := by cases v <;> first | rfl | cases e
      rw [this] at q; exact q
theorem scTuple : FnScope ["thing", "least", "most"] ["thing", "least", "most"] (defScope sTuple) := ⟨rfl, rfl, rfl, by decide +kernel, rfl, by decide +kernel, by decide +kernel⟩
theorem ok_tuple {f : Addr} {fd : FuncData} (F : Fun K "is_tuple_within" "is_tuple_within" sTuple f fd) (T : Txt mg) : FnOk P w K mg base CX0 1 f fd ["thing", "least", "most"] spTuple := by
  refine F.ok scTuple (fun vs H Q E h => ?_) (fun cdv A outer s H vs Q E hr h => ?_)
  · obtain ⟨v, lo, hi, rfl, _⟩ := h; rfl
  · obtain ⟨v, lo, hi, rfl, k, q⟩ := h
    refine ⟨_, pss_one (ps_ret (pe_and (pe_callB call_isinst rfl T.isinstance boot_isinstance (pa_cons (pv 0) (pa_cons (pe_bltn (v := .ty "tuple") rfl T.tuple boot_tuple rfl) pa_nil)))
      (pe_one (pe_chain op_le op_le (pv 1) (pe_callB call_len_seq rfl T.len PySem.boot_len (pa_cons (pv 0) pa_nil)) (pv 2))))), ?_⟩
    obtain ⟨t, ty, _, _, k3⟩ := ty_of (K := K) k
    refine ⟨_, rfl, _, "tuple", t, _, rfl, ty, k3, _, rfl, iteB (fun e => ?_) fun e => ?_⟩
    · obtain ⟨xs, ex⟩ := Option.isSome_iff_exists.mp e
      obtain ⟨a, rfl, ha⟩ := of_tupOf ex
      refine ⟨_, rfl, _, rfl, a, xs, rfl, .inr (SqT.of ha), _, _, rfl, rfl, _, rfl, ite2d (fun h1 => ?_) fun h1 => ?_⟩
      · refine ⟨_, rfl, _, _, rfl, rfl, ?_⟩
        have : tupIn H lo hi (.ref a) = decide ((xs.length : Int) ≤ hi) := by simp [tupIn, ex, h1]
        rw [this] at q; exact q
      · have : tupIn H lo hi (.ref a) = false := by simp [tupIn, ex, h1]
        rw [this] at q; exact q
    · have : tupIn H lo hi v = false := by
        unfold tupIn
        cases z : tupOf H v with
        | none => rfl
        | some xs => rw [z] at e; cases e
      rw [this] at q; exact q
end
end M05
set_option Elab.async false
set_option linter.all false
set_option maxRecDepth 100000
set_option maxHeartbeats 4000000
namespace M05
open PySem L2 PyProof.Rows
noncomputable def spRising : Sp := fun vs H Q _ => ∃ l ps prs, vs = [.ref l] ∧ H l = some (.lst (ps.map V.ref)) ∧ PlAt H ps prs ∧ 1 ≤ prs.length ∧ prs.length ≤ 100 ∧ (prs.Pairwise fun a b => lt2 a b = true) ∧ ∀ H', Same H H' → Q (.bl true) H'
noncomputable def spCustom : Sp := fun vs H Q _ => ∃ a cs, vs = [.ref a] ∧ cuAt H a cs ∧ CuOk cs ∧ ∀ H', Same H H' → Q (.bl true) H'
noncomputable def spClaim : Sp := fun vs H Q _ => ∃ (b : Addr) (c : C3), vs = [.ref b] ∧ H b = some (.tup [.int c.1, .int c.2.1, .int c.2.2]) ∧ ((0 ≤ c.1 ∧ c.1 ≤ 3) ∧ (0 ≤ c.2.1 ∧ c.2.1 ≤ 5) ∧ 1 ≤ c.2.2 ∧ c.2.2 ≤ 20) ∧ Q (.bl true) H
noncomputable def spClaims : Sp := fun vs H Q _ => ∃ a cl, vs = [.ref a] ∧ ClT H a cl ∧ ClOk cl ∧ ∀ H', Same H H' → Q (.bl true) H'
noncomputable def spChkCustom : Sp := fun vs H Q _ => ∃ a cs, vs = [.ref a] ∧ cuAt H a cs ∧ CuOk cs ∧ ∀ H', Same H H' → Q .non H'
noncomputable def spChkClaims : Sp := fun vs H Q _ => ∃ a cl, vs = [.ref a] ∧ ClT H a cl ∧ ClOk cl ∧ ∀ H', Same H H' → Q .non H'
section
variable {P : Program} {w : World} {K : PySem.W.Frag} {mg : Str → Option Value} {base : Heap}
theorem cutRef (ps : List Addr) (h : 1 ≤ ps.length) : cutV (ps.map V.ref) (some 1) none = (ps.drop 1).map V.ref := by
  have e1 : HT.sIx (ps.map V.ref).length 0 (some 1) = min 1 (ps.map V.ref).length := HT.sIx_nat _ _ 1
  have e2 : HT.sIx (ps.map V.ref).length (ps.map V.ref).length none = (ps.map V.ref).length := rfl
  unfold cutV
  rw [e1, e2, List.length_map, show min 1 ps.length = 1 by (first | lia | omega), List.take_of_length_le (by rw [List.length_drop, List.length_map]; (first | lia | omega)), List.map_drop]
theorem PlAt.get2 {H : Hp} : ∀ {ps : List Addr} {cs : List (Int × Int)} {i : Nat} {p : Addr}, PlAt H ps cs → ps[i]? = some p → ∃ c, cs[i]? = some c ∧ H p = some (.tup [.int c.1, .int c.2])
  | _, _, 0, _, .cons r _, h => by cases h; exact ⟨_, rfl, r⟩
  | _, _, i + 1, _, .cons _ t, h => PlAt.get2 (i := i) t (by simpa using h)
theorem scRising : FnScope ["things"] ["things"] (defScope sRising) := ⟨rfl, rfl, rfl, by decide +kernel, rfl, by decide +kernel, by decide +kernel⟩
theorem ndRO : (["one", "other"] : List Str).Nodup := by decide +kernel
theorem ok_rising {f : Addr} {fd : FuncData} (F : Fun K "is_rising" "is_rising" sRising f fd) (T : Txt mg) : FnOk P w K mg base CX0 1 f fd ["things"] spRising := by
  refine F.ok scRising (fun vs H Q E h => ?_) (fun cdv A outer s H vs Q E hr h => ?_)
  · obtain ⟨l, ps, prs, rfl, _⟩ := h; rfl
  · obtain ⟨l, ps, prs, rfl, hl, hP, h1, h100, hup, q⟩ := h
    have hlen : ps.length = prs.length := Paired.length hP
    refine ⟨_, pss_one (ps_ret (pe_callB (call_all rfl) rfl T.all boot_all (pa_lc (pe_comp1 (defScope sRising).names ["things"] ["one", "other"] [] rfl (pi_zip2 kL_ok rfl T.zip (pa_v (pv 0) (pa_s (pe_slice sl_list (pv 0) (po_some pe_int) po_none) pa_nil))) rfl rfl rfl (by decide +kernel)
      (fun Z => pg_tup rfl (pgs_cons (pg_name (i := 0) ndRO rfl (Or.inl rfl)) (pgs_cons (pg_name (i := 1) ndRO rfl (Or.inl rfl)) pgs_nil))) (fun Z => pts_nil) (fun Z => pe_cmpR (op_ltT (Nat.lt_of_succ_lt (hu_of hr))) (pv 0) (pv 1) (nomark _))) pa_nil))), ?_⟩
    refine ⟨_, rfl, _, rfl, _, rfl, l, _, rfl, SqL.of hl, fun t ht => ?_⟩
    rw [cutRef ps (by (first | lia | omega))]
    have s1 := same_upd (o := .lst ((ps.drop 1).map V.ref)) ht
    refine ⟨l, t, ps.map V.ref, (ps.drop 1).map V.ref, rfl, SqL.of (s1 _ _ hl), SqL.of upd_same, fun Z r hr' => ?_⟩
    have sH : Same H (upd H t (.lst ((ps.drop 1).map V.ref))) := s1
    refine for_zip2 (xs := ps.map V.ref) (ys := (ps.drop 1).map V.ref) (by rw [List.length_map, List.length_map, List.length_drop]; (first | lia | omega)) (fun i σ H' => σ.length = 2 ∧ Same (upd H t (.lst ((ps.drop 1).map V.ref))) H' ∧ H' r = some (.lst (((ps.drop 1).take i).map fun _ => V.bl true))) ⟨rfl, same_upd hr', by rw [upd_same]; rfl⟩
      (fun i σ H' h => ⟨SqL.of (h.2.1 _ _ (s1 _ _ hl)), SqL.of (h.2.1 _ _ upd_same)⟩) ?_ ?_
    · rintro i x y p3 σ H' hx hy ⟨hσ, hs, hl'⟩ hp3
      match σ, hσ with
      | [x0, x1], _ =>
      rw [List.getElem?_map] at hx hy
      cases hb : ps[i]? with
      | none => rw [hb] at hx; cases hx
      | some b =>
      cases hb2 : (ps.drop 1)[i]? with
      | none => rw [hb2] at hy; cases hy
      | some b2 =>
      rw [hb] at hx; cases hx
      rw [hb2] at hy; cases hy
      have hb2' : ps[i + 1]? = some b2 := by rw [List.getElem?_drop] at hb2; rw [show i + 1 = 1 + i by (first | lia | omega)]; exact hb2
      obtain ⟨c, hc, he⟩ := PlAt.get2 hP hb
      obtain ⟨c2, hc2, he2⟩ := PlAt.get2 hP hb2'
      have s3 := same_upd (o := .tup [.ref b, .ref b2]) hp3
      refine ⟨p3, _, rfl, SqT.of upd_same, rfl, _, _, rfl, _, _, rfl, rfl, ?_⟩
      refine body_all ?_
      refine ⟨_, rfl, _, rfl, b, b2, [c.1, c.2], [c2.1, c2.2], rfl, rfl, SqT.of (s3 _ _ (hs _ _ (s1 _ _ he))), SqT.of (s3 _ _ (hs _ _ (s1 _ _ he2))), ?_⟩
      have hlt : HT.lexLt [c.1, c.2] [c2.1, c2.2] = true := by
        obtain ⟨g1, e1⟩ := List.getElem?_eq_some_iff.mp hc
        obtain ⟨g2, e2⟩ := List.getElem?_eq_some_iff.mp hc2
        have := List.pairwise_iff_getElem.mp hup i (i + 1) g1 g2 (by (first | lia | omega))
        rw [e1, e2] at this
        exact this
      rw [hlt]
      have hi : i < (ps.drop 1).length := (List.getElem?_eq_some_iff.mp hb2).1
      rw [List.length_drop] at hi
      refine ⟨_, s3 _ _ hl', small1000 (by rw [List.length_map, List.length_take]; (first | lia | omega)), rfl, fun b' u e' => ?_, ?_⟩
      · rw [upd_ne (ne_of_none e' hr')]; exact s3 _ _ (hs _ _ e')
      · rw [upd_same, List.take_succ, hb2, List.map_append]; rfl
    · rintro σ H' ⟨_, hs, hl'⟩
      rw [List.length_map, List.take_of_length_le (Nat.le_refl _)] at hl'
      refine ⟨r, (ps.drop 1).map fun _ => true, rfl, SqL.of (by rw [hl', List.map_map]; rfl), ?_⟩
      rw [show ((ps.drop 1).map fun _ => true).all id = true by rw [List.all_map]; exact List.all_eq_true.mpr fun _ _ => rfl]
      exact q H' (s1.trans hs)
theorem scCustom : FnScope ["thing"] ["thing"] (defScope sCustom) := ⟨rfl, rfl, rfl, by decide +kernel, rfl, by decide +kernel, by decide +kernel⟩
theorem ok_custom {f g1 g2 : Addr} {fd d1 d2 : FuncData} (F : Fun K "is_custom" "is_custom" sCustom f fd) (T : Txt mg) (a1 : At P w K mg base 1 "is_tuple_within" g1 d1 ["thing", "least", "most"] spTuple) (a2 : At P w K mg base 2 "is_number_within" g2 d2 ["thing", "least", "most"] spWithin) : FnOk P w K mg base CX0 3 f fd ["thing"] spCustom := by
  obtain ⟨t1, mS⟩ := T.sorts
  obtain ⟨t2, mC⟩ := T.counted
  refine F.ok scCustom (fun vs H Q E h => ?_) (fun cdv A outer s H vs Q E hr h => ?_)
  · obtain ⟨a, cs, rfl, _⟩ := h; rfl
  · obtain ⟨a, cs, rfl, ha, G, q⟩ := h
    have ha' : H a = some (.tup (cs.map V.int)) := ha
    have hz : (cs.map V.int).length ≤ 1000 := by rw [List.length_map]; have := G.l6; (first | lia | omega)
    have kn : Kn H 2 (.ref a) := KnA.tup ha' hz (fun x hx => by obtain ⟨i, _, rfl⟩ := List.mem_map.mp hx; exact KnA.int i) 2
    refine ⟨_, pss_cons (ps_if (pt_not (pt_val (pe_call a1.ok (hr.mono (by decide)) rfl a1.nm a1.kp a1.bd .nil pass0 (pa_cons (pv 0) (pa_cons pe_int (pa_cons (pe_glob (v := .int 6) rfl mS ⟨_, rfl⟩) pa_nil)))))) pss_never pss_nil)
      (pss_one (ps_ret (pe_callB (call_all rfl) rfl T.all boot_all (pa_cons (pe_comp1 (defScope sCustom).names ["thing"] ["counted"] [] rfl (pi_tup (pv 0)) rfl rfl rfl (by decide +kernel)
        (fun Z => pg_name (i := 0) (show (["counted"] : List Str).Nodup by decide +kernel) rfl (Or.inl rfl)) (fun Z => pts_nil)
        (fun Z => pe_call a2.ok hr rfl a2.nm a2.kp a2.bd .nil pass0 (pa_cons (pv 0) (pa_cons pe_int (pa_cons (pe_glob (v := .int 100) rfl mC ⟨_, rfl⟩) pa_nil))))) pa_nil)))), ?_⟩
    refine ⟨_, rfl, _, 1, 6, rfl, kn.le (by decide), _, rfl, ?_⟩
    have ht : tupIn H 1 6 (.ref a) = true := by
      unfold tupIn; rw [tupOf_of ha']
      have h1 := G.l1; have h6 := G.l6
      simp only [List.length_map, Bool.and_eq_true, decide_eq_true_eq]; (first | lia | omega)
    rw [ht]
    refine iteF ?_
    refine ⟨_, rfl, a, rfl, ⟨_, SqT.of ha'⟩, fun Z l hl => ?_⟩
    refine comp_map (fun x => .bl (numIn 1 100 x)) ha' hl hz (fun x H' Q' hm hs hq => ?_) fun σ H' hs hl' => ?_
    · obtain ⟨i, _, rfl⟩ := List.mem_map.mp hm
      exact ⟨_, rfl, _, 1, 100, rfl, KnA.int i 1, hq _ (Same.refl _)⟩
    · refine ⟨l, (cs.map V.int).map (numIn 1 100), rfl, SqL.of (by rw [hl']; simp only [List.map_map]; rfl), ?_⟩
      have : ((cs.map V.int).map (numIn 1 100)).all id = true := by
        rw [List.all_map, List.all_map, List.all_eq_true]
        intro i hi
        have := G.num i hi
        show (decide (1 ≤ i) && decide (i ≤ 100)) = true
        simp only [Bool.and_eq_true, decide_eq_true_eq]; exact this
      rw [this]
      exact q H' hs
theorem scClaim : FnScope ["thing", "holder", "sort", "many"] ["thing"] (defScope sClaim) := ⟨rfl, rfl, rfl, by decide +kernel, rfl, by decide +kernel, by decide +kernel⟩
theorem numIn_of {lo hi i : Int} (h1 : lo ≤ i) (h2 : i ≤ hi) : numIn lo hi (.int i) = true := by simp [numIn, h1, h2]
theorem ok_claim {f g1 g2 : Addr} {fd d1 d2 : FuncData} (F : Fun K "is_claim" "is_claim" sClaim f fd) (T : Txt mg) (a1 : At P w K mg base 1 "is_tuple_within" g1 d1 ["thing", "least", "most"] spTuple) (a2 : At P w K mg base 2 "is_number_within" g2 d2 ["thing", "least", "most"] spWithin) : FnOk P w K mg base CX0 3 f fd ["thing"] spClaim := by
  obtain ⟨t1, mS⟩ := T.sorts
  obtain ⟨t2, mH⟩ := T.holders
  obtain ⟨t3, mR⟩ := T.rights
  refine F.ok scClaim (fun vs H Q E h => ?_) (fun cdv A outer s H vs Q E hr h => ?_)
  · obtain ⟨b, c, rfl, _⟩ := h; rfl
  · obtain ⟨b, c, rfl, hb, ⟨n1, n2, n3⟩, q⟩ := h
    have nd := scClaim.nd
    have kn : Kn H 1 (.ref b) := .inr (.inr ⟨_, hb, by show 3 ≤ 1000; decide, fun x _ => True.intro⟩)
    refine ⟨_, pss_cons (ps_if (pt_not (pt_val (pe_call a1.ok (hr.mono (by decide)) rfl a1.nm a1.kp a1.bd .nil pass0 (pa_cons (pv 0) (pa_cons pe_int (pa_cons pe_int pa_nil)))))) pss_never pss_nil) <|
      pss_cons (ps_asg (pv 0) (pg_tup rfl (pgs_cons (pg_name (i := 1) nd rfl (Or.inl rfl)) (pgs_cons (pg_name (i := 2) nd rfl (Or.inl rfl)) (pgs_cons (pg_name (i := 3) nd rfl (Or.inl rfl)) pgs_nil))))) <|
      pss_cons (ps_if (PW.pt (pw_or (pt_not (pt_val (pe_call a2.ok hr rfl a2.nm a2.kp a2.bd .nil pass0 (pa_cons (pv 1) (pa_cons pe_int (pa_cons (pe_op op_sub (pe_glob (v := .int 4) rfl mH ⟨_, rfl⟩) pe_int) pa_nil))))))
        (pw_or1 (pt_not (pt_val (pe_call a2.ok hr rfl a2.nm a2.kp a2.bd .nil pass0 (pa_cons (pv 2) (pa_cons pe_int (pa_cons (pe_op op_sub (pe_glob (v := .int 6) rfl mS ⟨_, rfl⟩) pe_int) pa_nil))))))))) pss_never pss_nil) <|
      pss_one (ps_ret (pe_call a2.ok hr rfl a2.nm a2.kp a2.bd .nil pass0 (pa_cons (pv 3) (pa_cons pe_int (pa_cons (pe_glob (v := .int 20) rfl mR ⟨_, rfl⟩) pa_nil))))), ?_⟩
    refine ⟨_, rfl, _, 3, 3, rfl, kn, _, rfl, ?_⟩
    have ht : tupIn H 3 3 (.ref b) = true := by unfold tupIn; rw [tupOf_of hb]; rfl
    rw [ht]
    refine iteF ?_
    refine ⟨_, rfl, b, _, rfl, SqT.of hb, rfl, _, _, rfl, _, _, rfl, _, _, rfl, rfl, ?_⟩
    refine ⟨_, rfl, _, _, rfl, rfl, _, 0, 3, rfl, KnA.int _ 1, _, rfl, ?_⟩
    rw [numIn_of n1.1 n1.2]
    refine iteF ?_
    refine ⟨_, rfl, _, _, rfl, rfl, _, 0, 5, rfl, KnA.int _ 1, _, rfl, ?_⟩
    rw [numIn_of n2.1 n2.2]
    refine iteF ?_
    refine ⟨_, rfl, _, 1, 20, rfl, KnA.int _ 1, ?_⟩
    rw [numIn_of n3.1 n3.2]
    exact q
end
end M05
set_option Elab.async false
set_option linter.all false
set_option maxRecDepth 100000
set_option maxHeartbeats 4000000
namespace M05
open PySem L2 PyProof.Rows Set4
noncomputable def hasH (cl : List C3) (i : Int) : Bool := cl.any fun c => decide (c.1 = i)
noncomputable def holdS (cl : List C3) : Nat → Bool := fun k => hasH cl (k : Int)
noncomputable def spStand : Sp := fun vs H Q _ => ∃ c a cs cl, vs = [.ref c, .ref a] ∧ cuAt H c cs ∧ ClT H a cl ∧ cl.length ≤ 12 ∧ Under cs cl ∧ ∀ H', Same H H' → Q (.bl true) H'
noncomputable def spChkUnder : Sp := fun vs H Q _ => ∃ c a cs cl, vs = [.ref c, .ref a] ∧ cuAt H c cs ∧ CuOk cs ∧ ClT H a cl ∧ ClOk cl ∧ Under cs cl ∧ ∀ H', Same H H' → Q .non H'
noncomputable def spIsHolder : Sp := fun vs H Q _ => ∃ a cl i, vs = [.ref a, .int i] ∧ ClT H a cl ∧ cl.length ≤ 12 ∧ ∀ H', Same H H' → Q (.bl (hasH cl i)) H'
noncomputable def spChkHolder : Sp := fun vs H Q _ => ∃ a cl i, vs = [.ref a, .int i] ∧ ClT H a cl ∧ cl.length ≤ 12 ∧ hasH cl i = true ∧ ∀ H', Same H H' → Q .non H'
noncomputable def spHoldersOf : Sp := fun vs H Q _ => ∃ a cl, vs = [.ref a] ∧ ClT H a cl ∧ ClOk cl ∧ ∀ l H', H l = none → Same H H' → H' l = some (.lst ((mem4 (holdS cl)).map fun k : Nat => V.int (k : Int))) → Q (.ref l) H'
theorem ClT.kn {H : Hp} {a : Addr} {cl : List C3} (h : ClT H a cl) (hz : cl.length ≤ 12) (n : Nat) : Kn H n (.ref a) := by
  obtain ⟨bs, h1, h2⟩ := h
  have hl : bs.length = cl.length := Paired.length h2
  refine KnA.tup h1 (by rw [List.length_map]; (first | lia | omega)) (fun x hx => ?_) n
  obtain ⟨b, hb, rfl⟩ := List.mem_map.mp hx
  obtain ⟨i, hi⟩ := List.getElem?_of_mem hb
  obtain ⟨c, hc, he⟩ := h2.get hi
  refine KnA.tup he (by show 3 ≤ 1000; decide) fun y hy => ?_
  simp only [List.mem_cons, List.not_mem_nil, or_false] at hy
  rcases hy with rfl | rfl | rfl <;> exact KnA.int _
section
variable {P : Program} {w : World} {K : PySem.W.Frag} {mg : Str → Option Value} {base : Heap}
theorem nd3 : (["holder", "sort", "many"] : List Str).Nodup := by decide +kernel
theorem scClaims : FnScope ["thing"] ["thing"] (defScope sClaims) := ⟨rfl, rfl, rfl, by decide +kernel, rfl, by decide +kernel, by decide +kernel⟩
theorem ok_claims {f g1 g2 g3 : Addr} {fd d1 d2 d3 : FuncData} (F : Fun K "are_claims" "are_claims" sClaims f fd) (T : Txt mg) (a1 : At P w K mg base 1 "is_tuple_within" g1 d1 ["thing", "least", "most"] spTuple) (a2 : At P w K mg base 3 "is_claim" g2 d2 ["thing"] spClaim) (a3 : At P w K mg base 1 "is_rising" g3 d3 ["things"] spRising) : FnOk P w K mg base CX0 4 f fd ["thing"] spClaims := by
  obtain ⟨t1, mC⟩ := T.claims
  refine F.ok scClaims (fun vs H Q E h => ?_) (fun cdv A outer s H vs Q E hr h => ?_)
  · obtain ⟨a, cl, rfl, _⟩ := h; rfl
  · obtain ⟨a, cl, rfl, hA, G, q⟩ := h
    have kn := ClT.kn hA G.l12 1
    obtain ⟨bs, ha, hC⟩ := hA
    have hl : bs.length = cl.length := Paired.length hC
    have hz : (bs.map V.ref).length ≤ 1000 := by rw [List.length_map]; have := G.l12; (first | lia | omega)
    refine ⟨_, pss_cons (ps_if (PW.pt (pw_or (pt_not (pt_val (pe_call a1.ok (hr.mono (by decide)) rfl a1.nm a1.kp a1.bd .nil pass0 (pa_cons (pv 0) (pa_cons pe_int (pa_cons (pe_glob (v := .int 12) rfl mC ⟨_, rfl⟩) pa_nil))))))
        (pw_or1 (pt_not (pt_val (pe_callB (call_all rfl) rfl T.all boot_all (pa_cons (pe_comp1 (defScope sClaims).names ["thing"] ["claim"] [] rfl (pi_tup (pv 0)) rfl rfl rfl (by decide +kernel)
          (fun Z => pg_name (i := 0) (show (["claim"] : List Str).Nodup by decide +kernel) rfl (Or.inl rfl)) (fun Z => pts_nil) (fun Z => pe_call a2.ok hr rfl a2.nm a2.kp a2.bd .nil pass0 (pa_cons (pv 0) pa_nil))) pa_nil))))))) pss_never pss_nil) <|
      pss_one (ps_ret (pe_call a3.ok (hr.mono (by decide)) rfl a3.nm a3.kp a3.bd .nil pass0 (pa_lc (pe_comp1 (defScope sClaims).names ["thing"] ["holder", "sort", "many"] [] rfl (pi_tup (pv 0)) rfl rfl rfl (by decide +kernel)
          (fun Z => pg_tup rfl (pgs_cons (pg_name (i := 0) nd3 rfl (Or.inl rfl)) (pgs_cons (pg_name (i := 1) nd3 rfl (Or.inl rfl)) (pgs_cons (pg_name (i := 2) nd3 rfl (Or.inl rfl)) pgs_nil)))) (fun Z => pts_nil) (fun Z => pe_tup (pa_cons (pv 0) (pa_cons (pv 1) pa_nil)))) pa_nil))), ?_⟩
    refine ⟨_, rfl, _, 1, 12, rfl, kn, _, rfl, ?_⟩
    have ht : tupIn H 1 12 (.ref a) = true := by
      unfold tupIn; rw [tupOf_of ha]
      have h1 := G.l1; have h6 := G.l12
      simp only [List.length_map, Bool.and_eq_true, decide_eq_true_eq]; (first | lia | omega)
    rw [ht]
    refine iteF ?_
    refine ⟨_, rfl, a, rfl, ⟨_, SqT.of ha⟩, fun Z l hl' => ?_⟩
    refine comp_map (fun _ => .bl true) ha hl' hz (fun x H' Q' hm hs hq => ?_) fun σ H1 hs1 hl1 => ?_
    · obtain ⟨b, hb, rfl⟩ := List.mem_map.mp hm
      obtain ⟨i, hi⟩ := List.getElem?_of_mem hb
      obtain ⟨c, hc, he⟩ := hC.get hi
      exact ⟨_, rfl, b, c, rfl, hs _ _ he, G.num c (List.mem_of_getElem? hc), hq _ (Same.refl _)⟩
    · refine ⟨l, (bs.map V.ref).map fun _ => true, rfl, SqL.of (by rw [hl1]; simp only [List.map_map]; rfl), _, rfl, ?_⟩
      rw [show ((bs.map V.ref).map fun _ => true).all id = true by rw [List.all_map]; exact List.all_eq_true.mpr fun _ _ => rfl]
      refine iteF ?_
      refine ⟨_, rfl, a, rfl, ⟨_, SqT.of (hs1 _ _ ha)⟩, fun Z2 l2 hl2 => ?_⟩
      refine comp_key wk_tup (fun H' hs => SqT.of (hs _ _ (hs1 _ _ ha))) (hC.ext hs1.ext) hl2 (by have := G.l12; (first | lia | omega)) fun σ H2 ps hs2 hl2' hP => ?_
      have hpl := Paired.length hP
      rw [List.length_map] at hpl
      refine ⟨l2, ps, _, rfl, hl2', hP, by rw [List.length_map]; exact G.l1, by rw [List.length_map]; have := G.l12; (first | lia | omega), G.up, fun H3 hs3 => q H3 ((hs1.trans hs2).trans hs3)⟩
theorem scChkCustom : FnScope ["custom"] ["custom"] (defScope sChkCustom) := ⟨rfl, rfl, rfl, by decide +kernel, rfl, by decide +kernel, by decide +kernel⟩
theorem ok_chkCustom {f g1 : Addr} {fd d1 : FuncData} (F : Fun K "check_custom" "check_custom" sChkCustom f fd) (a1 : At P w K mg base 3 "is_custom" g1 d1 ["thing"] spCustom) : FnOk P w K mg base CX0 4 f fd ["custom"] spChkCustom := by
  refine F.ok scChkCustom (fun vs H Q E h => ?_) (fun cdv A outer s H vs Q E hr h => ?_)
  · obtain ⟨a, cs, rfl, _⟩ := h; rfl
  · obtain ⟨a, cs, rfl, hA, G, q⟩ := h
    refine ⟨_, pss_one (ps_if (pt_not (pt_val (pe_call a1.ok hr rfl a1.nm a1.kp a1.bd .nil pass0 (pa_v (pv 0) pa_nil)))) pss_never pss_nil), ?_⟩
    exact ⟨_, rfl, a, cs, rfl, hA, G, fun H' hs => ⟨_, rfl, iteF (q H' hs)⟩⟩
theorem scChkClaims : FnScope ["claims"] ["claims"] (defScope sChkClaims) := ⟨rfl, rfl, rfl, by decide +kernel, rfl, by decide +kernel, by decide +kernel⟩
theorem ok_chkClaims {f g1 : Addr} {fd d1 : FuncData} (F : Fun K "check_claims" "check_claims" sChkClaims f fd) (a1 : At P w K mg base 4 "are_claims" g1 d1 ["thing"] spClaims) : FnOk P w K mg base CX0 5 f fd ["claims"] spChkClaims := by
  refine F.ok scChkClaims (fun vs H Q E h => ?_) (fun cdv A outer s H vs Q E hr h => ?_)
  · obtain ⟨a, cl, rfl, _⟩ := h; rfl
  · obtain ⟨a, cl, rfl, hA, G, q⟩ := h
    refine ⟨_, pss_one (ps_if (pt_not (pt_val (pe_call a1.ok hr rfl a1.nm a1.kp a1.bd .nil pass0 (pa_v (pv 0) pa_nil)))) pss_never pss_nil), ?_⟩
    exact ⟨_, rfl, a, cl, rfl, hA, G, fun H' hs => ⟨_, rfl, iteF (q H' hs)⟩⟩
theorem scStand : FnScope ["custom", "claims"] ["custom", "claims"] (defScope sStand) := ⟨rfl, rfl, rfl, by decide +kernel, rfl, by decide +kernel, by decide +kernel⟩
theorem nd4 : (["holder", "sort", "many", "custom"] : List Str).Nodup := by decide +kernel
theorem ok_stand {f : Addr} {fd : FuncData} (F : Fun K "stand_under" "stand_under" sStand f fd) (T : Txt mg) : FnOk P w K mg base CX0 1 f fd ["custom", "claims"] spStand := by
  refine F.ok scStand (fun vs H Q E h => ?_) (fun cdv A outer s H vs Q E hr h => ?_)
  · obtain ⟨c, a, cs, cl, rfl, _⟩ := h; rfl
  · obtain ⟨c, a, cs, cl, rfl, hc, ⟨bs, ha, hC⟩, h12, hU, q⟩ := h
    have hl : bs.length = cl.length := Paired.length hC
    refine ⟨_, pss_one (ps_ret (pe_callB (call_all rfl) rfl T.all boot_all (pa_lc (pe_comp1 (defScope sStand).names ["custom", "claims"] ["holder", "sort", "many"] [("custom", 0)] rfl (pi_tup (pv 1)) rfl rfl rfl (by decide +kernel)
      (fun Z => pg_tup rfl (pgs_cons (pg_name (i := 0) nd4 rfl (Or.inl rfl)) (pgs_cons (pg_name (i := 1) nd4 rfl (Or.inl rfl)) (pgs_cons (pg_name (i := 2) nd4 rfl (Or.inl rfl)) pgs_nil)))) (fun Z => pts_nil)
      (fun Z => pe_cmpR op_lt (pv 1) (pe_callB call_len_seq rfl T.len PySem.boot_len (pa_cons (pv 3) pa_nil)) (nomark _))) pa_nil))), ?_⟩
    refine ⟨_, rfl, a, rfl, ⟨_, SqT.of ha⟩, fun Z l hl' => ?_⟩
    refine comp_cl (rest := [some (.ref c)]) wk_tup (fun H' hs => SqT.of (hs _ _ ha)) hC hl' (by (first | lia | omega)) (fun _ => .bl true) (fun x H' Q' hm hs hq => ?_) fun σ H1 hs1 hl1 => ?_
    · refine ⟨_, rfl, _, rfl, c, _, rfl, .inr (SqT.of (hs _ _ hc)), _, _, rfl, rfl, ?_⟩
      show Q' (.bl (decide (x.2.1 < ((cs.map V.int).length : Int)))) H'
      rw [List.length_map, decide_eq_true (hU x hm)]
      exact hq _ (Same.refl _)
    · refine ⟨l, cl.map fun _ => true, rfl, SqL.of (by rw [hl1]; simp only [List.map_map]; rfl), ?_⟩
      rw [show (cl.map fun _ => true).all id = true by rw [List.all_map]; exact List.all_eq_true.mpr fun _ _ => rfl]
      exact q _ hs1
theorem scChkUnder : FnScope ["custom", "claims"] ["custom", "claims"] (defScope sChkUnder) := ⟨rfl, rfl, rfl, by decide +kernel, rfl, by decide +kernel, by decide +kernel⟩
theorem ok_chkUnder {f g1 g2 g3 : Addr} {fd d1 d2 d3 : FuncData} (F : Fun K "check_claims_under" "check_claims_under" sChkUnder f fd) (a1 : At P w K mg base 4 "check_custom" g1 d1 ["custom"] spChkCustom) (a2 : At P w K mg base 5 "check_claims" g2 d2 ["claims"] spChkClaims) (a3 : At P w K mg base 1 "stand_under" g3 d3 ["custom", "claims"] spStand) : FnOk P w K mg base CX0 6 f fd ["custom", "claims"] spChkUnder := by
  refine F.ok scChkUnder (fun vs H Q E h => ?_) (fun cdv A outer s H vs Q E hr h => ?_)
  · obtain ⟨c, a, cs, cl, rfl, _⟩ := h; rfl
  · obtain ⟨c, a, cs, cl, rfl, hc, Gc, hA, G, hU, q⟩ := h
    refine ⟨_, pss_cons (ps_expr (pe_call a1.ok (hr.mono (by decide)) rfl a1.nm a1.kp a1.bd .nil pass0 (pa_v (pv 0) pa_nil))) <| pss_cons (ps_expr (pe_call a2.ok hr rfl a2.nm a2.kp a2.bd .nil pass0 (pa_v (pv 1) pa_nil))) <|
      pss_one (ps_if (pt_not (pt_val (pe_call a3.ok (hr.mono (by decide)) rfl a3.nm a3.kp a3.bd .nil pass0 (pa_v (pv 0) (pa_v (pv 1) pa_nil))))) pss_never pss_nil), ?_⟩
    refine ⟨_, rfl, c, cs, rfl, hc, Gc, fun H1 s1 => ?_⟩
    refine ⟨_, rfl, a, cl, rfl, hA.ext s1.ext, G, fun H2 s2 => ?_⟩
    exact ⟨_, rfl, _, rfl, c, a, cs, cl, rfl, s2 _ _ (s1 _ _ hc), (hA.ext s1.ext).ext s2.ext, G.l12, hU, fun H3 s3 => ⟨_, rfl, iteF (q H3 ((s1.trans s2).trans s3))⟩⟩
theorem scIsHolder : FnScope ["claims", "thing"] ["claims", "thing"] (defScope sIsHolder) := ⟨rfl, rfl, rfl, by decide +kernel, rfl, by decide +kernel, by decide +kernel⟩
theorem nd4t : (["holder", "sort", "many", "thing"] : List Str).Nodup := by decide +kernel
theorem ok_isHolder {f g1 : Addr} {fd d1 : FuncData} (F : Fun K "is_holder" "is_holder" sIsHolder f fd) (T : Txt mg) (a1 : At P w K mg base 1 "is_number" g1 d1 ["thing"] spNumber) : FnOk P w K mg base CX0 2 f fd ["claims", "thing"] spIsHolder := by
  refine F.ok scIsHolder (fun vs H Q E h => ?_) (fun cdv A outer s H vs Q E hr h => ?_)
  · obtain ⟨a, cl, i, rfl, _⟩ := h; rfl
  · obtain ⟨a, cl, i, rfl, ⟨bs, ha, hC⟩, h12, q⟩ := h
    have hl : bs.length = cl.length := Paired.length hC
    refine ⟨_, pss_one (ps_ret (pe_and (pe_call a1.ok hr rfl a1.nm a1.kp a1.bd .nil pass0 (pa_cons (pv 1) pa_nil)) (pe_one (pe_callB (call_any rfl) rfl T.any boot_any (pa_lc (pe_comp1 (defScope sIsHolder).names ["claims", "thing"] ["holder", "sort", "many"] [("thing", 1)] rfl (pi_tup (pv 0)) rfl rfl rfl (by decide +kernel)
      (fun Z => pg_tup rfl (pgs_cons (pg_name (i := 0) nd4t rfl (Or.inl rfl)) (pgs_cons (pg_name (i := 1) nd4t rfl (Or.inl rfl)) (pgs_cons (pg_name (i := 2) nd4t rfl (Or.inl rfl)) pgs_nil)))) (fun Z => pts_nil)
      (fun Z => pe_cmpR op_eq (pv 0) (pv 3) (nomark _))) pa_nil))))), ?_⟩
    refine ⟨_, rfl, _, rfl, KnA.int i 1, _, rfl, iteT ?_⟩
    refine ⟨_, rfl, a, rfl, ⟨_, SqT.of ha⟩, fun Z l hl' => ?_⟩
    refine comp_cl (rest := [some (.int i)]) wk_tup (fun H' hs => SqT.of (hs _ _ ha)) hC hl' (by (first | lia | omega)) (fun c => .bl (decide (c.1 = i))) (fun x H' Q' hm hs hq => ?_) fun σ H1 hs1 hl1 => ?_
    · refine ⟨_, rfl, _, rfl, rfl, ?_⟩
      have : decide (V.int x.1 = V.int i) = decide (x.1 = i) := decide_eq_decide.mpr ⟨fun z => V.int.inj z, fun z => by rw [z]⟩
      rw [this]
      exact hq _ (Same.refl _)
    · refine ⟨l, cl.map fun c => decide (c.1 = i), rfl, SqL.of (by rw [hl1]; simp only [List.map_map]; rfl), ?_⟩
      have : (cl.map fun c => decide (c.1 = i)).any id = hasH cl i := by unfold hasH; rw [List.any_map]; rfl
      rw [this]
      exact q _ hs1
theorem scChkHolder : FnScope ["claims", "holder"] ["claims", "holder"] (defScope sChkHolder) := ⟨rfl, rfl, rfl, by decide +kernel, rfl, by decide +kernel, by decide +kernel⟩
theorem ok_chkHolder {f g1 : Addr} {fd d1 : FuncData} (F : Fun K "check_holder" "check_holder" sChkHolder f fd) (a1 : At P w K mg base 2 "is_holder" g1 d1 ["claims", "thing"] spIsHolder) : FnOk P w K mg base CX0 3 f fd ["claims", "holder"] spChkHolder := by
  refine F.ok scChkHolder (fun vs H Q E h => ?_) (fun cdv A outer s H vs Q E hr h => ?_)
  · obtain ⟨a, cl, i, rfl, _⟩ := h; rfl
  · obtain ⟨a, cl, i, rfl, hA, h12, hh, q⟩ := h
    refine ⟨_, pss_one (ps_if (pt_not (pt_val (pe_call a1.ok hr rfl a1.nm a1.kp a1.bd .nil pass0 (pa_v (pv 0) (pa_v (pv 1) pa_nil))))) pss_never pss_nil), ?_⟩
    refine ⟨_, rfl, _, rfl, a, cl, i, rfl, hA, h12, fun H' hs => ⟨_, rfl, ?_⟩⟩
    rw [hh]
    exact iteF (q H' hs)
theorem scHoldersOf : FnScope ["claims"] ["claims"] (defScope sHoldersOf) := ⟨rfl, rfl, rfl, by decide +kernel, rfl, by decide +kernel, by decide +kernel⟩
theorem ndHC : (["holder", "claims"] : List Str).Nodup := by decide +kernel
noncomputable def pre4 (S : Nat → Bool) (n : Nat) : List Nat := (List.range n).filter S
theorem pre4_all (S : Nat → Bool) : pre4 S 4 = mem4 S := by
  unfold pre4 mem4 L
  show List.filter S [0, 1, 2, 3] = _
  cases h0 : S 0 <;> cases h1 : S 1 <;> cases h2 : S 2 <;> cases h3 : S 3 <;> simp [List.filter, h0, h1, h2, h3]
theorem ok_holdersOf {f g1 g2 : Addr} {fd d1 d2 : FuncData} (F : Fun K "holders_of" "holders_of" sHoldersOf f fd) (T : Txt mg) (a1 : At P w K mg base 5 "check_claims" g1 d1 ["claims"] spChkClaims) (a2 : At P w K mg base 2 "is_holder" g2 d2 ["claims", "thing"] spIsHolder) : FnOk P w K mg base CX0 6 f fd ["claims"] spHoldersOf := by
  obtain ⟨t1, mH⟩ := T.holders
  refine F.ok scHoldersOf (fun vs H Q E h => ?_) (fun cdv A outer s H vs Q E hr h => ?_)
  · obtain ⟨a, cl, rfl, _⟩ := h; rfl
  · obtain ⟨a, cl, rfl, hA, G, q⟩ := h
    refine ⟨_, pss_cons (ps_expr (pe_call a1.ok hr rfl a1.nm a1.kp a1.bd .nil pass0 (pa_v (pv 0) pa_nil))) <|
      pss_one (ps_ret (pe_comp1 (defScope sHoldersOf).names ["claims"] ["holder"] [("claims", 0)] rfl (pi_range1 rfl T.range (pa_cons (pe_glob (v := .int 4) rfl mH ⟨_, rfl⟩) pa_nil)) rfl rfl rfl (by decide +kernel)
        (fun Z => pg_name (i := 0) ndHC rfl (Or.inl rfl)) (fun Z => pts_one (pt_val (pe_call a2.ok (hr.mono (by decide)) rfl a2.nm a2.kp a2.bd .nil pass0 (pa_v (pv 1) (pa_v (pv 0) pa_nil))))) (fun Z => pv 0))), ?_⟩
    refine ⟨_, rfl, a, cl, rfl, hA, G, fun H1 s1 => ?_⟩
    refine ⟨4, rfl, by decide, by decide, fun Z l hl => ?_⟩
    refine for_range (lo := 0) (n := 4) (fun i σ H' => (∃ o, σ = [o, some (.ref a)]) ∧ Same H1 H' ∧ H' l = some (.lst ((pre4 (holdS cl) i).map fun k : Nat => V.int (k : Int)))) ⟨⟨_, rfl⟩, same_upd hl, by rw [upd_same]; rfl⟩ ?_ ?_
    · rintro i σ H' hi ⟨⟨o, rfl⟩, hs, hl'⟩
      show tBodyC _ _ _ [some (.int (0 + (i : Int))), some (.ref a)] H'
      refine ⟨_, rfl, _, rfl, a, cl, _, rfl, hA.ext (s1.trans hs).ext, G.l12, fun H2 s2 => ⟨_, rfl, ?_⟩⟩
      have e0 : (0 : Int) + (i : Int) = (i : Int) := by (first | lia | omega)
      rw [e0]
      have ep : pre4 (holdS cl) (i + 1) = pre4 (holdS cl) i ++ (if holdS cl i = true then [i] else []) := by
        unfold pre4
        rw [List.range_succ, List.filter_append]
        congr 1
        by_cases hh : holdS cl i = true
        · rw [if_pos hh, List.filter_cons_of_pos hh]; rfl
        · rw [if_neg hh, List.filter_cons_of_neg hh]; rfl
      have hz : ((pre4 (holdS cl) i).map fun k : Nat => V.int (k : Int)).length ≤ 1000 := by
        rw [List.length_map]
        have := List.length_filter_le (holdS cl) (List.range i)
        rw [List.length_range] at this
        unfold pre4; (first | lia | omega)
      refine iteB (fun hh => ?_) fun hh => ?_
      · refine ⟨_, rfl, _, s2 _ _ hl', small1000 hz, ⟨_, rfl⟩, fun b u e => ?_, ?_⟩
        · rw [upd_ne (ne_of_none e hl)]; exact s2 _ _ (hs _ _ e)
        · rw [upd_same, ep, if_pos (show holdS cl i = true from hh), List.map_append]; rfl
      · refine ⟨⟨_, rfl⟩, hs.trans s2, ?_⟩
        rw [ep, if_neg (by show ¬ holdS cl i = true; unfold holdS; rw [hh]; decide), List.append_nil]
        exact s2 _ _ hl'
    · rintro σ H' ⟨_, hs, hl'⟩
      rw [pre4_all] at hl'
      have hHl : H l = none := by
        cases e : H l with
        | none => rfl
        | some o => rw [s1 _ _ e] at hl; cases hl
      exact q l H' hHl (s1.trans hs) hl'
end
end M05
set_option Elab.async false
set_option linter.all false
set_option maxRecDepth 100000
set_option maxHeartbeats 4000000
namespace M05
open PySem L2 PyProof.Rows Set4
noncomputable def cw (cs : List Int) (c : C3) : Int := cs.getD c.2.1.toNat 0 * c.2.2
noncomputable def cntAll (cs : List Int) (cl : List C3) : Int := (cl.map (cw cs)).sum
noncomputable def ofH (cl : List C3) (i : Int) : List C3 := cl.filter fun c => decide (c.1 = i)
noncomputable def cntH (cs : List Int) (cl : List C3) (i : Int) : Int := cntAll cs (ofH cl i)
noncomputable def Fine (cs : List Int) (cl : List C3) : Prop := cl.length ≤ 12 ∧ ∀ c ∈ cl, 0 ≤ c.2.1 ∧ c.2.1 < cs.length ∧ 1 ≤ c.2.2 ∧ c.2.2 ≤ 20
theorem fine_of {cs : List Int} {cl : List C3} (G : ClOk cl) (U : Under cs cl) : Fine cs cl := ⟨G.l12, fun c hc => ⟨(G.num c hc).2.1.1, U c hc, (G.num c hc).2.2.1, (G.num c hc).2.2.2⟩⟩
theorem Fine.sub {cs : List Int} {cl : List C3} (h : Fine cs cl) (i : Int) : Fine cs (ofH cl i) := ⟨Nat.le_trans (List.length_filter_le _ _) h.1, fun c hc => h.2 c (List.mem_filter.mp hc).1⟩
theorem cw_small {cs : List Int} (Gc : CuOk cs) {c : C3} (h : 0 ≤ c.2.1 ∧ c.2.1 < cs.length ∧ 1 ≤ c.2.2 ∧ c.2.2 ≤ 20) : 1 ≤ cs.getD c.2.1.toNat 0 ∧ cs.getD c.2.1.toNat 0 ≤ 100 ∧ 1 ≤ cw cs c ∧ cw cs c ≤ 2000 := by
  have hlt : c.2.1.toNat < cs.length := by (first | lia | omega)
  have e : cs.getD c.2.1.toNat 0 = cs[c.2.1.toNat] := by simp [hlt]
  have hn := Gc.num _ (List.getElem_mem hlt)
  unfold cw
  rw [e]
  refine ⟨hn.1, hn.2, ?_, ?_⟩
  · have := Int.mul_le_mul hn.1 h.2.2.1 (by (first | lia | omega)) (by (first | lia | omega))
    (first | lia | omega)
  · have := Int.mul_le_mul hn.2 h.2.2.2 (by (first | lia | omega)) (by (first | lia | omega))
    (first | lia | omega)
theorem cnt_small {cs : List Int} (Gc : CuOk cs) : ∀ {cl : List C3}, (∀ c ∈ cl, 0 ≤ c.2.1 ∧ c.2.1 < cs.length ∧ 1 ≤ c.2.2 ∧ c.2.2 ≤ 20) → (cl.length : Int) ≤ cntAll cs cl ∧ cntAll cs cl ≤ 2000 * cl.length
  | [], _ => by simp [cntAll]
  | c :: cl, h => by
    have ih := cnt_small Gc (cl := cl) fun d hd => h d (List.mem_cons_of_mem _ hd)
    have h0 := cw_small Gc (h c List.mem_cons_self)
    have e : cntAll cs (c :: cl) = cw cs c + cntAll cs cl := by unfold cntAll; rw [List.map_cons, List.sum_cons]
    rw [e, List.length_cons]
    constructor <;> (first | lia | omega)
theorem atI_get {cs : List Int} {s : Int} (h0 : 0 ≤ s) (h1 : s < cs.length) : atI (cs.map V.int) s = some (.int (cs.getD s.toNat 0)) := by
  obtain ⟨n, rfl⟩ := Int.eq_ofNat_of_zero_le h0
  have hn : n < cs.length := by (first | lia | omega)
  refine atI_nat ?_
  rw [List.getElem?_map, List.getElem?_eq_getElem hn]
  simp [hn]
noncomputable def spTogether : Sp := fun vs H Q _ => ∃ c a cs bs cl, vs = [.ref c, .ref a] ∧ cuAt H c cs ∧ CuOk cs ∧ (H a = some (.tup (bs.map V.ref)) ∨ H a = some (.lst (bs.map V.ref))) ∧ ClP H bs cl ∧ Fine cs cl ∧ ∀ H', Same H H' → Q (.int (cntAll cs cl)) H'
noncomputable def spCountOf : Sp := fun vs H Q _ => ∃ c a cs cl i, vs = [.ref c, .ref a, .int i] ∧ cuAt H c cs ∧ CuOk cs ∧ ClT H a cl ∧ ClOk cl ∧ Under cs cl ∧ hasH cl i = true ∧ ∀ H', Same H H' → Q (.int (cntH cs cl i)) H'
section
variable {P : Program} {w : World} {K : PySem.W.Frag} {mg : Str → Option Value} {base : Heap}
theorem scTogether : FnScope ["custom", "claims"] ["custom", "claims"] (defScope sTogether) := ⟨rfl, rfl, rfl, by decide +kernel, rfl, by decide +kernel, by decide +kernel⟩
theorem ok_together {f : Addr} {fd : FuncData} (F : Fun K "count_together" "count_together" sTogether f fd) (T : Txt mg) : FnOk P w K mg base CX0 1 f fd ["custom", "claims"] spTogether := by
  refine F.ok scTogether (fun vs H Q E h => ?_) (fun cdv A outer s H vs Q E hr h => ?_)
  · obtain ⟨c, a, cs, bs, cl, rfl, _⟩ := h; rfl
  · obtain ⟨c, a, cs, bs, cl, rfl, hc, Gc, ha, hC, hf, q⟩ := h
    have hl : bs.length = cl.length := Paired.length hC
    have h12 := hf.1
    refine ⟨_, pss_one (ps_ret (pe_callB (call_sumK rfl) rfl T.sum boot_sum (pa_lc (pe_comp1 (defScope sTogether).names ["custom", "claims"] ["holder", "sort", "many"] [("custom", 0)] rfl (PI.or (pi_tup (pv 1)) (pi_list (pv 1))) rfl rfl rfl (by decide +kernel)
      (fun Z => pg_tup rfl (pgs_cons (pg_name (i := 0) nd4 rfl (Or.inl rfl)) (pgs_cons (pg_name (i := 1) nd4 rfl (Or.inl rfl)) (pgs_cons (pg_name (i := 2) nd4 rfl (Or.inl rfl)) pgs_nil)))) (fun Z => pts_nil)
      (fun Z => pe_op op_mul (pe_ix ix_tup (pv 3) (pv 1) (fun _ _ => rfl)) (pv 2))) pa_nil))), ?_⟩
    have turn : ∀ (x : C3) (H' : Hp) (Q' : VK), x ∈ cl → Same H H' → (∀ H2, Same H' H2 → Q' (.int (cw cs x)) H2) → tOp (rI CMul fun i j => .int (i * j)) (tOp (rIxT K) (tVar 3) (tVar 1)) (tVar 2) (some (.int x.1) :: some (.int x.2.1) :: some (.int x.2.2) :: [some (.ref c)]) H' Q' := fun x H' Q' hm hs hq => by
      have hx := hf.2 x hm
      have hlt : x.2.1.toNat < cs.length := by (first | lia | omega)
      have hsm := cw_small Gc hx
      exact ⟨_, rfl, _, rfl, c, _, x.2.1, .int (cs.getD x.2.1.toNat 0), rfl, rfl, SqT.of (hs _ _ hc), atI_get hx.1 hx.2.1, _, rfl, _, _, rfl, rfl, .inl ⟨by (first | lia | omega), by (first | lia | omega)⟩, hq _ (Same.refl _)⟩
    have fin : ∀ (l : Addr) (σ : L2.St) (H1 : Hp), Same H H1 → H1 l = some (.lst (cl.map fun x => V.int (cw cs x))) → ∃ (p : Addr) (ns : List Int), [V.ref l] = [.ref p] ∧ SqL K H1 p (ns.map V.int) ∧ ns.length ≤ 1000 ∧ (∀ n ∈ ns, -10000 ≤ n ∧ n ≤ 10000) ∧ Q (.int ns.sum) H1 := fun l σ H1 hs1 hl1 => by
      refine ⟨l, cl.map (cw cs), rfl, SqL.of (by rw [hl1]; simp only [List.map_map]; rfl), by rw [List.length_map]; (first | lia | omega), fun n hn => ?_, q H1 hs1⟩
      obtain ⟨x, hx, rfl⟩ := List.mem_map.mp hn
      have := cw_small Gc (hf.2 x hx)
      (first | lia | omega)
    rcases ha with ha | ha
    · refine .inl ⟨_, rfl, a, rfl, ⟨_, SqT.of ha⟩, fun Z l hl' => ?_⟩
      exact comp_cl (rest := [some (.ref c)]) wk_tup (fun H' hs => SqT.of (hs _ _ ha)) hC hl' (by (first | lia | omega)) (fun x => .int (cw cs x)) turn fun σ H1 hs1 hl1 => fin l σ H1 hs1 hl1
    · refine .inr ⟨_, rfl, a, rfl, ⟨_, SqL.of ha⟩, fun Z l hl' => ?_⟩
      exact comp_cl (rest := [some (.ref c)]) wk_list (fun H' hs => SqL.of (hs _ _ ha)) hC hl' (by (first | lia | omega)) (fun x => .int (cw cs x)) turn fun σ H1 hs1 hl1 => fin l σ H1 hs1 hl1
theorem scCountOf : FnScope ["custom", "claims", "holder"] ["custom", "claims", "holder"] (defScope sCountOf) := ⟨rfl, rfl, rfl, by decide +kernel, rfl, by decide +kernel, by decide +kernel⟩
theorem ndCH : (["claim", "holder"] : List Str).Nodup := by decide +kernel
theorem ok_countOf {f g1 g2 g3 : Addr} {fd d1 d2 d3 : FuncData} (F : Fun K "count_of" "count_of" sCountOf f fd) (a1 : At P w K mg base 6 "check_claims_under" g1 d1 ["custom", "claims"] spChkUnder) (a2 : At P w K mg base 3 "check_holder" g2 d2 ["claims", "holder"] spChkHolder) (a3 : At P w K mg base 1 "count_together" g3 d3 ["custom", "claims"] spTogether) : FnOk P w K mg base CX0 7 f fd ["custom", "claims", "holder"] spCountOf := by
  refine F.ok scCountOf (fun vs H Q E h => ?_) (fun cdv A outer s H vs Q E hr h => ?_)
  · obtain ⟨c, a, cs, cl, i, rfl, _⟩ := h; rfl
  · obtain ⟨c, a, cs, cl, i, rfl, hc, Gc, hA, G, hU, hh, q⟩ := h
    refine ⟨_, pss_cons (ps_expr (pe_call a1.ok hr rfl a1.nm a1.kp a1.bd .nil pass0 (pa_v (pv 0) (pa_v (pv 1) pa_nil)))) <| pss_cons (ps_expr (pe_call a2.ok (hr.mono (by decide)) rfl a2.nm a2.kp a2.bd .nil pass0 (pa_v (pv 1) (pa_v (pv 2) pa_nil)))) <|
      pss_one (ps_ret (pe_call a3.ok (hr.mono (by decide)) rfl a3.nm a3.kp a3.bd .nil pass0 (pa_v (pv 0) (pa_lc (pe_comp1 (defScope sCountOf).names ["custom", "claims", "holder"] ["claim"] [("holder", 2)] rfl (pi_tup (pv 1)) rfl rfl rfl (by decide +kernel)
        (fun Z => pg_name (i := 0) ndCH rfl (Or.inl rfl)) (fun Z => pts_one (pt_cmpR op_eq (pe_ix ix_tup (pv 0) pe_int (fun _ _ => rfl)) (pv 1) (nomark _))) (fun Z => pv 0)) pa_nil)))), ?_⟩
    refine ⟨_, rfl, _, rfl, c, a, cs, cl, rfl, hc, Gc, hA, G, hU, fun H1 s1 => ?_⟩
    refine ⟨_, rfl, _, rfl, a, cl, i, rfl, hA.ext s1.ext, G.l12, hh, fun H2 s2 => ?_⟩
    obtain ⟨bs, ha, hC⟩ := (hA.ext s1.ext).ext s2.ext
    have hl : bs.length = cl.length := Paired.length hC
    have h12 := G.l12
    refine ⟨_, rfl, _, rfl, a, rfl, ⟨_, SqT.of ha⟩, fun Z l hl' => ?_⟩
    refine comp_clN (fun c => decide (c.1 = i)) wk_tup (fun H' hs => SqT.of (hs _ _ ha)) hC hl' (by (first | lia | omega)) (fun b y H' Q' he hs hq => ?_) fun σ H' bs' hs hl2 hC2 => ?_
    · refine ⟨_, rfl, b, _, 0, .int y.1, rfl, rfl, SqT.of he, atI_nat (j := 0) rfl, _, rfl, rfl, _, rfl, ?_⟩
      have ed : decide (V.int y.1 = V.int i) = decide (y.1 = i) := decide_eq_decide.mpr ⟨fun z => V.int.inj z, fun z => by rw [z]⟩
      rw [ed]
      exact hq _ (Same.refl _)
    · exact ⟨c, l, cs, bs', ofH cl i, rfl, hs _ _ (s2 _ _ (s1 _ _ hc)), Gc, .inr hl2, hC2, (fine_of G hU).sub i, fun H3 s3 => q H3 (((s1.trans s2).trans hs).trans s3)⟩
end
end M05
set_option Elab.async false
set_option linter.all false
set_option maxRecDepth 100000
set_option maxHeartbeats 4000000
namespace M05
open PySem L2 PyProof.Rows Set4
noncomputable def frTop (t b : Int) : Int := t / ((Nat.gcd t.toNat b.toNat : Nat) : Int)
noncomputable def frBot (t b : Int) : Int := b / ((Nat.gcd t.toNat b.toNat : Nat) : Int)
noncomputable def spFraction : Sp := fun vs H Q _ => ∃ t b, vs = [.int t, .int b] ∧ (0 ≤ t ∧ t < 1000000) ∧ (1 ≤ b ∧ b < 1000000) ∧ ∀ p, H p = none → Q (.ref p) (upd H p (.tup [.int (frTop t b), .int (frBot t b)]))
noncomputable def spShareOf : Sp := fun vs H Q _ => ∃ c a cs cl i, vs = [.ref c, .ref a, .int i] ∧ cuAt H c cs ∧ CuOk cs ∧ ClT H a cl ∧ ClOk cl ∧ Under cs cl ∧ hasH cl i = true ∧ ∀ p H', Same H H' → H' p = some (.tup [.int (frTop (cntH cs cl i) (cntAll cs cl)), .int (frBot (cntH cs cl i) (cntAll cs cl))]) → Q (.ref p) H'
theorem gcd_step (a b : Nat) : Nat.gcd b (a % b) = Nat.gcd a b := by
  rw [Nat.gcd_comm b, ← Nat.gcd_rec, Nat.gcd_comm]
section
variable {P : Program} {w : World} {K : PySem.W.Frag} {mg : Str → Option Value} {base : Heap}
theorem scFraction : FnScope ["top", "bottom", "divisor", "rest"] ["top", "bottom"] (defScope sFraction) := ⟨rfl, rfl, rfl, by decide +kernel, rfl, by decide +kernel, by decide +kernel⟩
theorem ok_fraction {f : Addr} {fd : FuncData} (F : Fun K "fraction" "fraction" sFraction f fd) : FnOk P w K mg base CX0 1 f fd ["top", "bottom"] spFraction := by
  refine F.ok scFraction (fun vs H Q E h => ?_) (fun cdv A outer s H vs Q E hr h => ?_)
  · obtain ⟨t, b, rfl, _⟩ := h; rfl
  · obtain ⟨t, b, rfl, ht, hb, q⟩ := h
    have nd := scFraction.nd
    obtain ⟨tn, rfl⟩ := Int.eq_ofNat_of_zero_le ht.1
    obtain ⟨bn, rfl⟩ := Int.eq_ofNat_of_zero_le (show 0 ≤ b by (first | lia | omega))
    refine ⟨_, pss_cons (ps_par (i := 2) (j := 3) rfl nd rfl rfl (by decide) rfl rfl (pa_v (pv 0) (pa_v (pv 1) pa_nil)) rfl) <|
      pss_cons (ps_while PassesOwn.never (pt_cmpR op_gt (pv 3) pe_int (nomark _)) (pss_one (ps_par (i := 2) (j := 3) rfl nd rfl rfl (by decide) rfl rfl (pa_v (pv 3) (pa_b (pe_op op_mod (pv 2) (pv 3)) pa_nil)) rfl))) <|
      pss_one (ps_ret (pe_tup (pa_b (pe_op op_fdiv (pv 0) (pv 2)) (pa_b (pe_op op_fdiv (pv 1) (pv 2)) pa_nil)))), ?_⟩
    refine ⟨_, rfl, _, rfl, _, _, rfl, ?_⟩
    refine while_by (fun σ H' => H' = H ∧ ∃ x y : Nat, σ = [some (.int (tn : Int)), some (.int (bn : Int)), some (.int (x : Int)), some (.int (y : Int))] ∧ Nat.gcd x y = Nat.gcd tn bn ∧ x < 1000000 ∧ y < 1000000) (fun σ _ => match σ with | [_, _, _, some (.int y)] => y.toNat | _ => 0)
      ⟨rfl, tn, bn, rfl, rfl, by (first | lia | omega), by (first | lia | omega)⟩ ?_ (fun σ H' R R' hi hc => ?_)
    · rintro σ H' ⟨rfl, x, y, rfl, hg, hx, hy⟩
      refine ⟨_, rfl, _, _, rfl, rfl, _, rfl, ite2d (fun hp => ?_) fun hp => ?_⟩
      · have hy0 : 0 < y := by (first | lia | omega)
        refine ⟨_, rfl, _, rfl, _, rfl, _, _, rfl, rfl, (by (first | lia | omega)), _, _, rfl, ?_⟩
        have hm : x % y < y := Nat.mod_lt _ hy0
        refine ⟨⟨rfl, y, x % y, ?_, by rw [gcd_step]; exact hg, hy, by (first | lia | omega)⟩, ?_⟩
        · show [some (V.int (tn : Int)), some (.int (bn : Int)), some (.int (y : Int)), some (.int ((x : Int) % (y : Int)))] = _
          rw [Int.natCast_emod]
        · show ((x : Int) % (y : Int)).toNat < ((y : Int)).toNat
          have e : (x : Int) % (y : Int) = ((x % y : Nat) : Int) := (Int.natCast_emod x y).symm
          rw [e, Int.toNat_natCast, Int.toNat_natCast]
          exact hm
      · have hy0 : y = 0 := by (first | lia | omega)
        subst hy0
        rw [Nat.gcd_zero_right] at hg
        subst hg
        have hgp : 0 < Nat.gcd tn bn := Nat.gcd_pos_of_pos_right _ (by (first | lia | omega))
        refine ⟨_, rfl, _, rfl, _, _, rfl, rfl, ⟨by (first | lia | omega), by (first | lia | omega)⟩, _, rfl, _, rfl, _, _, rfl, rfl, ⟨by (first | lia | omega), by (first | lia | omega)⟩, by show 2 ≤ sizeLine; decide, fun p hp' => ?_⟩
        exact q p hp'
    · obtain ⟨v, e1, h1⟩ := hc
      obtain ⟨i, j, e2, e3, c, e4, h2⟩ := h1
      exact ⟨v, e1, i, j, e2, e3, c, e4, hi _ _ h2⟩
theorem scShareOf : FnScope ["custom", "claims", "holder"] ["custom", "claims", "holder"] (defScope sShareOf) := ⟨rfl, rfl, rfl, by decide +kernel, rfl, by decide +kernel, by decide +kernel⟩
theorem cntH_bounds {cs : List Int} {cl : List C3} (Gc : CuOk cs) (G : ClOk cl) (U : Under cs cl) (i : Int) : (0 ≤ cntH cs cl i ∧ cntH cs cl i < 1000000) ∧ 1 ≤ cntAll cs cl ∧ cntAll cs cl < 1000000 := by
  have hf := fine_of G U
  have h1 := cnt_small Gc hf.2
  have h2 := cnt_small Gc (hf.sub i).2
  have := G.l1
  have := hf.1
  have := (hf.sub i).1
  unfold cntH
  (first | lia | omega)
theorem ok_shareOf {f g1 g2 g3 : Addr} {fd d1 d2 d3 : FuncData} (F : Fun K "share_of" "share_of" sShareOf f fd) (a1 : At P w K mg base 1 "fraction" g1 d1 ["top", "bottom"] spFraction) (a2 : At P w K mg base 7 "count_of" g2 d2 ["custom", "claims", "holder"] spCountOf) (a3 : At P w K mg base 1 "count_together" g3 d3 ["custom", "claims"] spTogether) : FnOk P w K mg base CX0 8 f fd ["custom", "claims", "holder"] spShareOf := by
  refine F.ok scShareOf (fun vs H Q E h => ?_) (fun cdv A outer s H vs Q E hr h => ?_)
  · obtain ⟨c, a, cs, cl, i, rfl, _⟩ := h; rfl
  · obtain ⟨c, a, cs, cl, i, rfl, hc, Gc, hA, G, hU, hh, q⟩ := h
    refine ⟨_, pss_one (ps_ret (pe_call a1.ok (hr.mono (by decide)) rfl a1.nm a1.kp a1.bd .nil pass0 (pa_k (pe_call a2.ok hr rfl a2.nm a2.kp a2.bd .nil pass0 (pa_v (pv 0) (pa_v (pv 1) (pa_v (pv 2) pa_nil)))) (pa_k (pe_call a3.ok (hr.mono (by decide)) rfl a3.nm a3.kp a3.bd .nil pass0 (pa_v (pv 0) (pa_v (pv 1) pa_nil))) pa_nil)))), ?_⟩
    refine ⟨_, rfl, _, rfl, _, rfl, c, a, cs, cl, i, rfl, hc, Gc, hA, G, hU, hh, fun H1 s1 => ?_⟩
    obtain ⟨bs, ha, hC⟩ := hA.ext s1.ext
    refine ⟨_, rfl, _, rfl, c, a, cs, bs, cl, rfl, s1 _ _ hc, Gc, .inl ha, hC, fine_of G hU, fun H2 s2 => ?_⟩
    have hb := cntH_bounds Gc G hU i
    exact ⟨_, _, rfl, hb.1, hb.2, fun p hp => q p _ ((s1.trans s2).trans (same_upd hp)) upd_same⟩
end
end M05
set_option Elab.async false
set_option linter.all false
set_option maxRecDepth 100000
set_option maxHeartbeats 4000000
namespace M05
open PySem L2 PyProof.Rows Set4
noncomputable abbrev sCell : Stmt := top 41
noncomputable abbrev sPen : Stmt := top 42
noncomputable abbrev sDraw : Stmt := top 43
noncomputable abbrev sPick : Stmt := top 44
noncomputable def spCell (K : PySem.W.Frag) : Sp := fun vs H Q _ => ∃ a ns k, vs = [.ref a, .int k] ∧ SqL K H a ((ns : List Int).map V.int) ∧ 0 ≤ k ∧ ∀ i, Q (.int i) H
noncomputable def spPen : Sp := fun vs H Q _ => ∃ i : Int, vs = [.int i] ∧ ∀ p H', H p = none → Same H H' → PenAt H' p → Q (.ref p) H'
noncomputable def spDraw : Sp := fun vs H Q _ => ∃ p m, vs = [.ref p, .int m] ∧ PenAt H p ∧ 0 < m ∧ m < 1000000 ∧ ∀ d H', 0 ≤ d → d < m → Stp p H H' → Q (.int d) H'
section
variable {P : Program} {w : World} {K : PySem.W.Frag} {mg : Str → Option Value} {base : Heap}
theorem scCell : FnScope ["_law_script", "_law_k"] ["_law_script", "_law_k"] (defScope sCell) := ⟨rfl, rfl, rfl, by decide +kernel, rfl, by decide +kernel, by decide +kernel⟩
theorem ok_cell {f : Addr} {fd : FuncData} (F : Fun K "_law_cell" "_law_cell" sCell f fd) (T : Txt mg) : FnOk P w K mg base CX0 1 f fd ["_law_script", "_law_k"] (spCell K) := by
  refine F.ok scCell (fun vs H Q E h => ?_) (fun cdv A outer s H vs Q E hr h => ?_)
  · obtain ⟨a, ns, k, rfl, _⟩ := h; rfl
  · obtain ⟨a, ns, k, rfl, ha, hk, q⟩ := h
    refine ⟨_, pss_cons (ps_if (pt_cmpR op_lt (pv 1) (pe_callB call_len_seq rfl T.len PySem.boot_len (pa_cons (pv 0) pa_nil)) (nomark _)) (pss_one (ps_ret (pe_ix ix_list (pv 0) (pv 1) (fun _ _ => rfl)))) pss_nil) (pss_one (ps_ret pe_int)), ?_⟩
    refine ⟨_, rfl, _, rfl, a, _, rfl, .inl ha, _, _, rfl, rfl, _, rfl, ite2d (fun h1 => ?_) fun h1 => q 0⟩
    rw [List.length_map] at h1
    obtain ⟨n, rfl⟩ := Int.eq_ofNat_of_zero_le hk
    have hlt : n < ns.length := by (first | lia | omega)
    exact ⟨_, rfl, _, rfl, a, _, n, .int ns[n], rfl, rfl, ha, atI_nat (by rw [List.getElem?_map]; simp [hlt]), q _⟩
theorem scPen : FnScope ["_law_cell_here"] ["_law_cell_here"] (defScope sPen) := ⟨rfl, rfl, rfl, by decide +kernel, rfl, by decide +kernel, by decide +kernel⟩
theorem ok_pen {f : Addr} {fd : FuncData} (F : Fun K "_law_pen" "_law_pen" sPen f fd) (T : Txt mg) : FnOk P w K mg base CX0 1 f fd ["_law_cell_here"] spPen := by
  refine F.ok scPen (fun vs H Q E h => ?_) (fun cdv A outer s H vs Q E hr h => ?_)
  · obtain ⟨i, rfl, _⟩ := h; rfl
  · obtain ⟨i, rfl, q⟩ := h
    refine ⟨_, pss_one (ps_ret (pe_lst (pa_cons (pv 0) (pa_cons (pe_callTy call_int1 rfl T.int boot_int (pa_cons (pe_cmpR op_ge (pv 0) (pe_op op_pow pe_int pe_int) (nomark _)) pa_nil)) pa_nil)))), ?_⟩
    refine ⟨_, rfl, _, rfl, _, _, rfl, rfl, ⟨by decide, by decide, by decide⟩, _, _, rfl, rfl, .inr ⟨_, rfl, ?_⟩⟩
    refine ⟨by show 2 ≤ sizeLine; decide, fun l hl => ?_⟩
    exact q l _ hl (same_upd hl) ⟨_, _, upd_same⟩
theorem scDraw : FnScope ["_law_pen_here", "_law_bound", "_law_drawn"] ["_law_pen_here", "_law_bound"] (defScope sDraw) := ⟨rfl, rfl, rfl, by decide +kernel, rfl, by decide +kernel, by decide +kernel⟩
theorem ok_draw {f : Addr} {fd : FuncData} (F : Fun K "_law_draw" "_law_draw" sDraw f fd) (T : Txt mg) : FnOk P w K mg base CX0 1 f fd ["_law_pen_here", "_law_bound"] spDraw := by
  refine F.ok scDraw (fun vs H Q E h => ?_) (fun cdv A outer s H vs Q E hr h => ?_)
  · obtain ⟨p, m, rfl, _⟩ := h; rfl
  · obtain ⟨p, m, rfl, ⟨x, f1, hp⟩, h0, h1, q⟩ := h
    refine ⟨_, pss_cons (ps_if (pt_cmpR op_eq (pe_ix ix_list (pv 0) pe_int (fun _ _ => rfl)) pe_int (nomark _))
        (pss_cons (ps_set (i := 2) scDraw.nd rfl (Or.inl rfl) (pe_op op_mod (pe_ix ix_list (pv 0) pe_int (fun _ _ => rfl)) (pv 1)))
        (pss_cons (ps_asg (pe_op op_fdiv (pe_ix ix_list (pv 0) pe_int (fun _ _ => rfl)) (pv 1)) (pg_sub (pv 0) pe_int set_list))
        (pss_one (ps_ret (pv 2))))) pss_nil)
      (pss_cons (ps_asg (pe_op op_mod (pe_op op_add (pe_op op_mul (pe_op op_mod (pe_ix ix_list (pv 0) pe_int (fun _ _ => rfl)) pe_int) pe_int) pe_int) pe_int) (pg_sub (pv 0) pe_int set_list))
      (pss_one (ps_ret (pe_op op_mod (pe_op op_fdiv (pe_op op_mod (pe_op op_add (pe_op op_mul (pe_ix ix_list (pv 0) pe_int (fun _ _ => rfl)) (pe_ix ix_list (pv 0) pe_int (fun _ _ => rfl))) (pe_op op_mul pe_int (pe_ix ix_list (pv 0) pe_int (fun _ _ => rfl)))) pe_int) pe_int) (pv 1))))), ?_⟩
    refine ⟨_, rfl, p, _, 1, _, rfl, rfl, SqL.of hp, atI_nat (j := 1) rfl, rfl, _, rfl, ite2d (fun _ => ?_) fun _ => ?_⟩
    · refine ⟨_, rfl, p, _, 0, _, rfl, rfl, SqL.of hp, atI_nat (j := 0) rfl, _, rfl, _, _, rfl, rfl, h0, ?_⟩
      refine ⟨_, rfl, p, _, 0, _, rfl, rfl, SqL.of hp, atI_nat (j := 0) rfl, _, rfl, _, _, rfl, rfl, ⟨h0, by (first | lia | omega)⟩, ?_⟩
      refine ⟨_, rfl, p, _, 0, 0, rfl, rfl, hp, rfl, ?_⟩
      refine ⟨_, rfl, ?_⟩
      exact q _ _ (Int.emod_nonneg _ (by (first | lia | omega))) (Int.emod_lt_of_pos _ h0) ⟨⟨_, _, upd_same⟩, fun b o hb e => by rw [upd_ne hb]; exact e⟩
    · have hm : ∀ y : Int, 0 ≤ y % 2147483629 ∧ y % 2147483629 < 2147483629 := fun y => ⟨Int.emod_nonneg _ (by (first | lia | omega)), Int.emod_lt_of_pos _ (by (first | lia | omega))⟩
      have b1 := hm x
      have b2 := hm (x % 2147483629 * 48271 + 11)
      refine ⟨_, rfl, p, _, 0, _, rfl, rfl, SqL.of hp, atI_nat (j := 0) rfl, _, _, rfl, rfl, (by show (0 : Int) < 2147483629; decide), _, _, rfl, rfl, .inl ⟨by (first | lia | omega), by (first | lia | omega)⟩, _, _, rfl, rfl, _, _, rfl, rfl, (by show (0 : Int) < 2147483629; decide), ?_⟩
      refine ⟨_, rfl, p, _, 0, 0, rfl, rfl, hp, rfl, ?_⟩
      refine ⟨_, rfl, p, _, 0, _, rfl, rfl, SqL.of upd_same, atI_nat (j := 0) rfl, _, rfl, p, _, 0, _, rfl, rfl, SqL.of upd_same, atI_nat (j := 0) rfl, _, _, rfl, rfl, .inl ⟨by (first | lia | omega), by (first | lia | omega)⟩, ?_⟩
      refine ⟨_, rfl, p, _, 0, _, rfl, rfl, SqL.of upd_same, atI_nat (j := 0) rfl, _, _, rfl, rfl, .inl ⟨by decide, by decide⟩, _, _, rfl, rfl, _, _, rfl, rfl, (by show (0 : Int) < 2147483647; decide), _, _, rfl, rfl, ⟨by decide, by decide⟩, _, rfl, _, _, rfl, rfl, h0, ?_⟩
      exact q _ _ (Int.emod_nonneg _ (by (first | lia | omega))) (Int.emod_lt_of_pos _ h0) ⟨⟨_, _, upd_same⟩, fun b o hb e => by rw [upd_ne hb]; exact e⟩
end
noncomputable def spPick : Sp := fun vs H Q _ => ∃ p l xs, vs = [.ref p, .ref l] ∧ PenAt H p ∧ l ≠ p ∧ H l = some (.lst xs) ∧ 1 ≤ xs.length ∧ xs.length ≤ 1000 ∧ ∀ v H', v ∈ xs → Stp p H H' → Q v H'
section
variable {P : Program} {w : World} {K : PySem.W.Frag} {mg : Str → Option Value} {base : Heap}
theorem scPick : FnScope ["_law_pen_here", "_law_things"] ["_law_pen_here", "_law_things"] (defScope sPick) := ⟨rfl, rfl, rfl, by decide +kernel, rfl, by decide +kernel, by decide +kernel⟩
theorem ok_pick {f g1 : Addr} {fd d1 : FuncData} (F : Fun K "_law_pick" "_law_pick" sPick f fd) (T : Txt mg) (a1 : At P w K mg base 1 "_law_draw" g1 d1 ["_law_pen_here", "_law_bound"] spDraw) : FnOk P w K mg base CX0 2 f fd ["_law_pen_here", "_law_things"] spPick := by
  refine F.ok scPick (fun vs H Q E h => ?_) (fun cdv A outer s H vs Q E hr h => ?_)
  · obtain ⟨p, l, xs, rfl, _⟩ := h; rfl
  · obtain ⟨p, l, xs, rfl, hp, hlp, hl, h1, hz, q⟩ := h
    refine ⟨_, pss_one (ps_ret (pe_ix ix_list (pv 1) (pe_call a1.ok hr rfl a1.nm a1.kp a1.bd .nil pass0 (pa_v (pv 0) (pa_k (pe_callB call_len_seq rfl T.len PySem.boot_len (pa_v (pv 1) pa_nil)) pa_nil))) (fun _ _ => rfl))), ?_⟩
    refine ⟨_, rfl, _, rfl, _, rfl, l, xs, rfl, .inl (SqL.of hl), p, (xs.length : Int), rfl, hp, by (first | lia | omega), by (first | lia | omega), fun d H' d0 d1' st => ?_⟩
    obtain ⟨n, rfl⟩ := Int.eq_ofNat_of_zero_le d0
    have hn : n < xs.length := by (first | lia | omega)
    exact ⟨l, xs, _, xs[n], rfl, rfl, SqL.of (st.keep l _ hlp hl), atI_nat (List.getElem?_eq_getElem hn), q _ _ (List.getElem_mem _) st⟩
end
end M05
set_option Elab.async false
set_option linter.all false
set_option maxRecDepth 100000
set_option maxHeartbeats 4000000
namespace M05
open PySem L2 PyProof.Rows Set4
noncomputable abbrev sCustomL : Stmt := top 45
noncomputable abbrev sClaimsL : Stmt := top 46
noncomputable def ent (c : C3) : List Key × V := ([Sum.inl c.1, Sum.inl c.2.1], .int c.2.2)
noncomputable def putC (es : List C3) (h s m : Int) : List C3 := if (es.any fun c => decide (key2 c = (h, s))) = true then es.map (fun c => if key2 c = (h, s) then (h, s, m) else c) else es ++ [(h, s, m)]
theorem key_eq {c : C3} {h s : Int} : (ent c).1 = [Sum.inl h, Sum.inl s] ↔ key2 c = (h, s) := by
  unfold ent key2
  constructor
  · intro e
    have e1 := (List.cons.inj e).1
    have e2 := (List.cons.inj (List.cons.inj e).2).1
    rw [Sum.inl.inj e1, Sum.inl.inj e2]
  · intro e
    rw [(Prod.mk.inj e).1, (Prod.mk.inj e).2]
theorem putK_ent (es : List C3) (h s m : Int) : putK (es.map ent) [Sum.inl h, Sum.inl s] (.int m) = (putC es h s m).map ent := by
  unfold putK putC
  have e1 : ((es.map ent).any fun kv => decide (kv.1 = [Sum.inl h, Sum.inl s])) = es.any fun c => decide (key2 c = (h, s)) := by
    rw [List.any_map]
    congr 1
    funext c
    exact decide_eq_decide.mpr key_eq
  rw [e1]
  split
  · rw [List.map_map, List.map_map]
    refine List.map_congr_left fun c _ => ?_
    show (if (ent c).1 = [Sum.inl h, Sum.inl s] then ((ent c).1, V.int m) else ent c) = ent (if key2 c = (h, s) then (h, s, m) else c)
    by_cases e : key2 c = (h, s)
    · rw [if_pos (key_eq.mpr e), if_pos e, key_eq.mpr e]; rfl
    · rw [if_neg (fun z => e (key_eq.mp z)), if_neg e]
  · rw [List.map_append]; rfl
theorem putC_keys (es : List C3) (h s m : Int) (hn : (es.map key2).Nodup) : ((putC es h s m).map key2).Nodup := by
  unfold putC
  by_cases hany : (es.any fun c => decide (key2 c = (h, s))) = true
  · rw [if_pos hany, List.map_map]
    have : es.map (key2 ∘ fun c => if key2 c = (h, s) then (h, s, m) else c) = es.map key2 := List.map_congr_left fun c _ => by
      show key2 (if key2 c = (h, s) then (h, s, m) else c) = key2 c
      by_cases e : key2 c = (h, s)
      · rw [if_pos e, e]; rfl
      · rw [if_neg e]
    rw [this]; exact hn
  · rw [if_neg hany, List.map_append]
    refine List.nodup_append.mpr ⟨hn, by simp, fun a ha b hb e => hany ?_⟩
    have hb' : b = (h, s) := by simpa [key2] using hb
    obtain ⟨c, hc, rfl⟩ := List.mem_map.mp ha
    exact List.any_eq_true.mpr ⟨c, hc, decide_eq_true (e.trans hb')⟩
theorem putC_all {es : List C3} {h s m : Int} {B : C3 → Prop} (ha : ∀ c ∈ es, B c) (hb : B (h, s, m)) : ∀ c ∈ putC es h s m, B c := by
  unfold putC
  intro c hc
  by_cases hany : (es.any fun c => decide (key2 c = (h, s))) = true
  · rw [if_pos hany] at hc
    obtain ⟨d, hd, rfl⟩ := List.mem_map.mp hc
    by_cases e : key2 d = (h, s)
    · rw [if_pos e]; exact hb
    · rw [if_neg e]; exact ha d hd
  · rw [if_neg hany] at hc
    rcases List.mem_append.mp hc with z | z
    · exact ha c z
    · rw [List.mem_singleton.mp z]; exact hb
theorem putC_len (es : List C3) (h s m : Int) : (putC es h s m).length ≤ es.length + 1 ∧ 1 ≤ (putC es h s m).length := by
  unfold putC
  by_cases hany : (es.any fun c => decide (key2 c = (h, s))) = true
  · rw [if_pos hany, List.length_map]
    refine ⟨by (first | lia | omega), ?_⟩
    obtain ⟨c, hc, _⟩ := List.any_eq_true.mp hany
    exact List.length_pos_of_mem hc
  · rw [if_neg hany, List.length_append]
    simp
noncomputable def row (c : C3) : List Int := [c.1, c.2.1, c.2.2]
noncomputable def unrow : List Int → C3 | [a, b, c] => (a, b, c) | _ => (0, 0, 0)
theorem lt_of_rows {a b : C3} (h : HT.lexLt (row b) (row a) = false) (hn : key2 a ≠ key2 b) : lt2 (key2 a) (key2 b) = true := by
  obtain ⟨a1, a2, a3⟩ := a
  obtain ⟨b1, b2, b3⟩ := b
  unfold row at h
  unfold lt2 key2
  unfold key2 at hn
  dsimp only at h hn ⊢
  rw [HT.lexLt_cons, HT.lexLt_cons] at h ⊢
  by_cases e1 : a1 = b1
  · subst e1
    rw [if_pos rfl] at h ⊢
    by_cases e2 : a2 = b2
    · subst e2; exact absurd rfl hn
    · rw [if_neg (fun z => e2 z.symm), decide_eq_false_iff_not] at h
      rw [if_neg e2, decide_eq_true_eq]; (first | lia | omega)
  · rw [if_neg (fun z => e1 z.symm), decide_eq_false_iff_not] at h
    rw [if_neg e1, decide_eq_true_eq]; (first | lia | omega)
theorem clOk_of {es : List C3} {zs zs' : List (Addr × List Int)} (hz : zs.map (·.2) = es.map row) (hs : Sorted2 zs zs') (h1 : 1 ≤ es.length) (h12 : es.length ≤ 12) (hb : ∀ c ∈ es, (0 ≤ c.1 ∧ c.1 ≤ 3) ∧ (0 ≤ c.2.1 ∧ c.2.1 ≤ 5) ∧ 1 ≤ c.2.2 ∧ c.2.2 ≤ 20) (hn : (es.map key2).Nodup) :
    ClOk (zs'.map fun z => unrow z.2) ∧ (zs'.map fun z => unrow z.2).Perm es ∧ ∀ z ∈ zs', z.2 = row (unrow z.2) := by
  have hlen : zs.length = es.length := by have := congrArg List.length hz; simpa using this
  have e0 : zs.map (fun z => unrow z.2) = es := by
    have : zs.map (fun z => unrow z.2) = (zs.map (·.2)).map unrow := by rw [List.map_map]; rfl
    rw [this, hz, List.map_map]
    exact List.map_id' es
  have hp : (zs'.map fun z => unrow z.2).Perm es := by rw [← e0]; exact hs.1.map _
  have hrow : ∀ z ∈ zs', z.2 = row (unrow z.2) := fun z hz' => by
    have hm : z.2 ∈ zs.map (·.2) := List.mem_map_of_mem (hs.1.mem_iff.mp hz')
    rw [hz] at hm
    obtain ⟨c, _, e⟩ := List.mem_map.mp hm
    rw [← e]; rfl
  have hl' : (zs'.map fun z => unrow z.2).length = es.length := hp.length_eq
  refine ⟨⟨by (first | lia | omega), by (first | lia | omega), fun c hc => hb c (hp.mem_iff.mp hc), ?_⟩, hp, hrow⟩
  have nd : ((zs'.map fun z => unrow z.2).map key2).Nodup := ((hp.map key2).nodup_iff).mpr hn
  rw [List.map_map] at nd ⊢
  rw [List.nodup_iff_pairwise_ne, List.pairwise_map] at nd
  rw [List.pairwise_map]
  have both := hs.2.and nd
  rw [List.pairwise_iff_getElem] at both ⊢
  intro i j hi hj hij
  have b := both i j hi hj hij
  have r1 := hrow _ (List.getElem_mem hi)
  have r2 := hrow _ (List.getElem_mem hj)
  have b1 := b.1
  rw [r1, r2] at b1
  exact lt_of_rows b1 b.2
noncomputable def spCustomL : Sp := fun vs H Q _ => ∃ p, vs = [.ref p] ∧ PenAt H p ∧ ∀ a cs H', Stp p H H' → cuAt H' a cs → CuOk cs → cs.length ≤ 4 → Q (.ref a) H'
section
variable {P : Program} {w : World} {K : PySem.W.Frag} {mg : Str → Option Value} {base : Heap}
theorem scCustomL : FnScope ["_law_pen_here"] ["_law_pen_here"] (defScope sCustomL) := ⟨rfl, rfl, rfl, by decide +kernel, rfl, by decide +kernel, by decide +kernel⟩
theorem ndTP : (["_law_turn", "_law_pen_here"] : List Str).Nodup := by decide +kernel
theorem ok_customL {f g1 g2 : Addr} {fd d1 d2 : FuncData} (F : Fun K "_law_custom" "_law_custom" sCustomL f fd) (T : Txt mg) (a1 : At P w K mg base 1 "_law_draw" g1 d1 ["_law_pen_here", "_law_bound"] spDraw) (a2 : At P w K mg base 2 "_law_pick" g2 d2 ["_law_pen_here", "_law_things"] spPick) : FnOk P w K mg base CX0 3 f fd ["_law_pen_here"] spCustomL := by
  refine F.ok scCustomL (fun vs H Q E h => ?_) (fun cdv A outer s H vs Q E hr h => ?_)
  · obtain ⟨p, rfl, _⟩ := h; rfl
  · obtain ⟨p, rfl, hp, q⟩ := h
    have r1 : Room 1 _ := hr.mono (by decide)
    refine ⟨_, pss_one (ps_ret (pe_callTy call_tuple_of rfl T.tuple boot_tuple (pa_lc (pe_comp1 (defScope sCustomL).names ["_law_pen_here"] ["_law_turn"] [("_law_pen_here", 0)] rfl (pi_range1 rfl T.range (pa_b (pe_op op_add pe_int (pe_call a1.ok r1 rfl a1.nm a1.kp a1.bd .nil pass0 (pa_v (pv 0) (pa_c pe_int pa_nil)))) pa_nil)) rfl rfl rfl (by decide +kernel)
      (fun Z => pg_name (i := 0) ndTP rfl (Or.inl rfl)) (fun Z => pts_nil)
      (fun Z => pe_call a2.ok hr rfl a2.nm a2.kp a2.bd .nil pass0 (pa_v (pv 1) (pa_q (pq_lq (lstq (pq_i (pq_i (pq_i (pq_i (pq_b (pe_op op_add pe_int (pe_call a1.ok r1 rfl a1.nm a1.kp a1.bd .nil pass0 (pa_v (pv 1) (pa_c pe_int pa_nil)))) pq_nil)))))) pq_nil))))) pa_nil))), ?_⟩
    refine ⟨_, rfl, p, 4, rfl, hp, by decide, by decide, fun d H1 d0 d1' st1 => ?_⟩
    refine ⟨_, _, rfl, rfl, 1 + d, rfl, by (first | lia | omega), by (first | lia | omega), fun Z l hl => ?_⟩
    have hHl : H l = none := by
      cases e : H l with
      | none => rfl
      | some o =>
        by_cases z : l = p
        · obtain ⟨x, f', e'⟩ := st1.pen
          rw [z, e'] at hl; cases hl
        · rw [st1.keep l o z e] at hl; cases hl
    have hlp : l ≠ p := fun z => by
      obtain ⟨x, f', e'⟩ := hp
      rw [z, e'] at hHl; cases hHl
    refine for_range (lo := 0) (n := (1 + d).toNat) (fun i σ H' => (∃ o, σ = [o, some (.ref p)]) ∧ Stp p H H' ∧ ∃ cs : List Int, H' l = some (.lst (cs.map V.int)) ∧ cs.length = i ∧ ∀ x ∈ cs, 1 ≤ x ∧ x ≤ 100) ⟨⟨_, rfl⟩, st1.updL hHl hp, [], by rw [upd_same]; rfl, rfl, fun x hx => by cases hx⟩ ?_ ?_
    · rintro i σ H' hi ⟨⟨o, rfl⟩, st, cs, hl', hn, hx⟩
      refine body_name ?_
      refine ⟨_, rfl, _, rfl, p, 100, rfl, st.pen, by decide, by decide, fun m H2 m0 m1 st2 => ?_⟩
      refine ⟨_, _, rfl, rfl, by show 5 ≤ sizeLine; decide, fun t ht => ?_⟩
      have htp : t ≠ p := fun z => by
        obtain ⟨x, f', e'⟩ := st2.pen
        rw [z, e'] at ht; cases ht
      have st3 := (st.trans st2).same (same_upd (o := .lst [.int 1, .int 1, .int 2, .int 3, .int (1 + m)]) ht)
      refine ⟨p, t, _, rfl, st3.pen, htp, upd_same, by show 1 ≤ 5; decide, by show 5 ≤ 1000; decide, fun v H4 hv st4 => ?_⟩
      obtain ⟨x, rfl, hx1, hx2⟩ : ∃ x, v = V.int x ∧ 1 ≤ x ∧ x ≤ 100 := by
        simp only [List.mem_cons, List.not_mem_nil, or_false] at hv
        rcases hv with rfl | rfl | rfl | rfl | rfl
        · exact ⟨1, rfl, by decide, by decide⟩
        · exact ⟨1, rfl, by decide, by decide⟩
        · exact ⟨2, rfl, by decide, by decide⟩
        · exact ⟨3, rfl, by decide, by decide⟩
        · exact ⟨1 + m, rfl, by (first | lia | omega), by (first | lia | omega)⟩
      have hlt : H2 l = some (.lst (cs.map V.int)) := st2.keep l _ hlp hl'
      have hlt3 := same_upd (o := .lst [.int 1, .int 1, .int 2, .int 3, .int (1 + m)]) ht _ _ hlt
      refine ⟨_, st4.keep l _ hlp hlt3, small1000 (by rw [List.length_map]; (first | lia | omega)), ⟨_, rfl⟩, (st3.trans st4).updL hHl hp, cs ++ [x], ?_, by rw [List.length_append, hn]; rfl, fun y hy => ?_⟩
      · rw [upd_same, List.map_append]; rfl
      · rcases List.mem_append.mp hy with z | z
        · exact hx y z
        · rw [List.mem_singleton.mp z]; exact ⟨hx1, hx2⟩
    · rintro σ H' ⟨_, st, cs, hl', hn, hx⟩
      refine ⟨l, _, rfl, .inl ⟨SqL.of hl', fun a ha => ?_⟩⟩
      exact q a cs _ (st.same (same_upd ha)) upd_same ⟨by (first | lia | omega), by (first | lia | omega), hx⟩ (by (first | lia | omega))
end
end M05
set_option Elab.async false
set_option linter.all false
set_option maxRecDepth 100000
set_option maxHeartbeats 4000000
namespace L2
open PySem PySem.Spec PyProof.Rows
theorem Stp.updO {p d : Addr} {H H1 : Hp} {o : HO} (s : Stp p H H1) (hd : H d = none) (hp : PenAt H p) : Stp p H (upd H1 d o) := by
  obtain ⟨x, f, e⟩ := hp
  have hne : p ≠ d := ne_of_none e hd
  obtain ⟨x', f', e'⟩ := s.pen
  exact ⟨⟨x', f', by rw [upd_ne hne]; exact e'⟩, fun b o hb h => by rw [upd_ne (ne_of_none h hd)]; exact s.keep b o hb h⟩
theorem Stp.none {p b : Addr} {H H1 : Hp} (s : Stp p H H1) (h : H1 b = Option.none) : H b = Option.none ∧ b ≠ p := by
  have hb : b ≠ p := fun z => by
    obtain ⟨x, f, e⟩ := s.pen
    rw [z, e] at h; cases h
  refine ⟨?_, hb⟩
  cases e : H b with
  | none => rfl
  | some o => rw [s.keep b o hb e] at h; cases h
theorem for_items {d : Addr} {o : Obj} {kvs : List (List Key × V)} {g : TG} {tb : TS} {D : Ends} {σ : St} {H : Hp} (Pv : Nat → St → Hp → Prop) (h0 : Pv 0 σ H) (hl : ∀ i σ H, Pv i σ H → H d = some (.frz o (.dT kvs)))
    (hs : ∀ i k x p b σ H, kvs[i]? = some (k, x) → Pv i σ H → H p = none → H b = some (.tup (k.map kV)) → g (.ref p) σ (upd H p (.tup [.ref b, x])) fun σ2 H2 => tb { D with nx := Pv (i + 1), ct := Pv (i + 1), bk := D.nx } σ2 H2) (hd : ∀ σ H, Pv kvs.length σ H → D.nx σ H) :
    tForJ (Itm d o kvs) g tb D σ H := by
  refine ⟨fun i m σ H => m = kvs.length - i ∧ i ≤ kvs.length ∧ Pv i σ H, ⟨kvs.length, by simp, Nat.zero_le _, h0⟩, ?_⟩
  rintro i m σ H ⟨rfl, hi, p⟩
  by_cases hlt : i < kvs.length
  · refine .inr ⟨⟨hl i σ H p, hlt⟩, Pv (i + 1), fun σ' H' p' => ⟨kvs.length - (i + 1), by (first | lia | omega), rfl, hlt, p'⟩, fun x H' y => ?_⟩
    obtain ⟨pp, b, k, x', e1, e2, e3, e4, e5⟩ := y
    subst e1 e3
    exact hs i k x' pp b σ H e4 p e2 e5
  · have e : i = kvs.length := by (first | lia | omega)
    subst e
    exact .inl ⟨⟨hl _ σ H p, rfl⟩, hd σ H p⟩
end L2
namespace M05
open PySem L2 PyProof.Rows Set4
theorem boot_sorted : bootBuiltins "sorted" = some (.builtin "sorted") := by decide +kernel
noncomputable def HoOk (hs : List Int) : Prop := 1 ≤ hs.length ∧ hs.length ≤ 1000 ∧ ∀ x ∈ hs, 0 ≤ x ∧ x ≤ 3
noncomputable def spClaimsL : Sp := fun vs H Q _ => ∃ p c hl cs hs, vs = [.ref p, .ref c, .ref hl] ∧ PenAt H p ∧ cuAt H c cs ∧ CuOk cs ∧ hl ≠ p ∧ H hl = some (.lst ((hs : List Int).map V.int)) ∧ HoOk hs ∧ ∀ a cl H', Stp p H H' → ClT H' a cl → ClOk cl → Under cs cl → Q (.ref a) H'
noncomputable abbrev nCL : List Str := ["_law_pen_here", "_law_custom_here", "_law_holders", "_law_rights", "_law_turn", "_law_holder", "_law_sort"]
section
variable {P : Program} {w : World} {K : PySem.W.Frag} {mg : Str → Option Value} {base : Heap}
theorem scClaimsL : FnScope nCL ["_law_pen_here", "_law_custom_here", "_law_holders"] (defScope sClaimsL) := ⟨rfl, rfl, rfl, by decide +kernel, rfl, by decide +kernel, by decide +kernel⟩
theorem ndPM : (["_law_pair", "_law_many"] : List Str).Nodup := by decide +kernel
theorem ok_claimsL {f g1 g2 : Addr} {fd d1 d2 : FuncData} (F : Fun K "_law_claims" "_law_claims" sClaimsL f fd) (T : Txt mg) (a1 : At P w K mg base 1 "_law_draw" g1 d1 ["_law_pen_here", "_law_bound"] spDraw) (a2 : At P w K mg base 2 "_law_pick" g2 d2 ["_law_pen_here", "_law_things"] spPick) : FnOk P w K mg base CX0 3 f fd ["_law_pen_here", "_law_custom_here", "_law_holders"] spClaimsL := by
  refine F.ok scClaimsL (fun vs H Q E h => ?_) (fun cdv A outer s H vs Q E hr h => ?_)
  · obtain ⟨p, c, hl, cs, hs, rfl, _⟩ := h; rfl
  · obtain ⟨p, c, hl, cs, hs, rfl, hp, hc, Gc, hlp, hhl, Gh, q⟩ := h
    have nd := scClaimsL.nd
    have r1 : Room 1 _ := hr.mono (by decide)
    have hu : (A.deeper (envOfC "_law_claims" (defScope sClaimsL) s.heap.objs.size f cdv)).units + 1 < cLine := hu_of hr
    refine ⟨_, pss_cons (ps_set (i := 3) nd rfl (Or.inl rfl) pe_dnewT) <|
      pss_cons (ps_for PassesOwn.never rfl (pi_range1 rfl T.range (pa_b (pe_op op_add pe_int (pe_call a1.ok r1 rfl a1.nm a1.kp a1.bd .nil pass0 (pa_v (pv 0) (pa_c pe_int pa_nil)))) pa_nil)) (pg_name (i := 4) nd rfl (Or.inl rfl))
        (pss_cons (ps_par (i := 5) (j := 6) rfl nd rfl rfl (by decide) rfl rfl (pa_k (pe_call a2.ok hr rfl a2.nm a2.kp a2.bd .nil pass0 (pa_v (pv 0) (pa_v (pv 2) pa_nil))) (pa_k (pe_call a1.ok r1 rfl a1.nm a1.kp a1.bd .nil pass0 (pa_v (pv 0) (pa_k (pe_callB call_len_seq rfl T.len PySem.boot_len (pa_v (pv 1) pa_nil)) pa_nil))) pa_nil)) rfl) <|
         pss_one (ps_dput hu (pv 3) (pe_tup (pa_v (pv 5) (pa_v (pv 6) pa_nil))) (pe_call a2.ok hr rfl a2.nm a2.kp a2.bd .nil pass0 (pa_v (pv 0) (pa_q (pq_lq (lstq (pq_i (pq_i (pq_i (pq_i (pq_b (pe_op op_add pe_int (pe_call a1.ok r1 rfl a1.nm a1.kp a1.bd .nil pass0 (pa_v (pv 0) (pa_c pe_int pa_nil)))) pq_nil)))))) pq_nil)))) rfl))) <|
      pss_one (ps_ret (pe_callTy call_tuple_of rfl T.tuple boot_tuple (pa_k (pe_callB call_sortedT rfl T.sorted boot_sorted (pa_lc (pe_comp1 (defScope sClaimsL).names nCL ["_law_pair", "_law_many"] [] rfl (pi_items (pv 3)) rfl rfl rfl (by decide +kernel)
        (fun Z => pg_tup rfl (pgs_cons (pg_name (i := 0) ndPM rfl (Or.inl rfl)) (pgs_cons (pg_name (i := 1) ndPM rfl (Or.inl rfl)) pgs_nil))) (fun Z => pts_nil) (fun Z => pe_op op_catU (pv 0) (pe_tup (pa_v (pv 1) pa_nil)))) pa_nil)) pa_nil))), ?_⟩
    intro d hd
    have st0 : Stp p H (upd H d (.dT [])) := (Stp.refl hp).updO hd hp
    refine ⟨_, rfl, p, 8, rfl, st0.pen, by decide, by decide, fun dn H1 d0 d1' st1 => ?_⟩
    refine ⟨_, _, rfl, rfl, 1 + dn, rfl, by (first | lia | omega), by (first | lia | omega), ?_⟩
    have hdp : d ≠ p := fun z => by
      obtain ⟨x, y, e⟩ := hp
      rw [z, e] at hd; cases hd
    refine for_range (lo := 0) (n := (1 + dn).toNat) (fun i σ H' => (∃ o4 o5 o6, σ = [some (.ref p), some (.ref c), some (.ref hl), some (.ref d), o4, o5, o6]) ∧ Stp p H H' ∧ ∃ es : List C3, H' d = some (.dT (es.map ent)) ∧ (es.map key2).Nodup ∧ (∀ x ∈ es, ((0 ≤ x.1 ∧ x.1 ≤ 3) ∧ (0 ≤ x.2.1 ∧ x.2.1 ≤ 5) ∧ 1 ≤ x.2.2 ∧ x.2.2 ≤ 20) ∧ x.2.1 < cs.length) ∧ es.length ≤ i ∧ (1 ≤ i → 1 ≤ es.length))
      ⟨⟨_, _, _, rfl⟩, st0.trans st1, [], st1.keep d _ hdp upd_same, List.nodup_nil, (fun x hx => by cases hx), Nat.le_refl _, fun z => by (first | lia | omega)⟩ ?_ ?_
    · rintro i σ H' hi ⟨⟨o4, o5, o6, rfl⟩, st, es, hd', hn, hb, hlen, _⟩
      have hcH : ∀ H2, Stp p H H2 → cuAt H2 c cs := fun H2 s => s.keep c _ (hp.ne hc (by intro z; simp)) hc
      refine ⟨_, rfl, _, rfl, p, hl, _, rfl, st.pen, hlp, st.keep hl _ hlp hhl, by rw [List.length_map]; exact Gh.1, by rw [List.length_map]; exact Gh.2.1, fun v H2 hv st2 => ?_⟩
      obtain ⟨hh, hhm, rfl⟩ := List.mem_map.mp hv
      have hhb := Gh.2.2 hh hhm
      have st12 := st.trans st2
      refine ⟨_, rfl, _, rfl, c, _, rfl, .inr (SqT.of (hcH _ st12)), p, _, rfl, st12.pen, ?_, ?_, fun sn H3 s0 s1 st3 => ?_⟩
      · rw [List.length_map]; have := Gc.l1; (first | lia | omega)
      · rw [List.length_map]; have := Gc.l6; (first | lia | omega)
      rw [List.length_map] at s1
      refine ⟨_, _, rfl, ?_⟩
      have st13 := st12.trans st3
      refine ⟨_, rfl, _, rfl, p, 20, rfl, st13.pen, by decide, by decide, fun m H4 m0 m1 st4 => ?_⟩
      refine ⟨_, _, rfl, rfl, by show 5 ≤ sizeLine; decide, fun t ht => ?_⟩
      have st14 := st13.trans st4
      have htn := st14.none ht
      have st5 := st14.same (same_upd (o := .lst [.int 1, .int 1, .int 2, .int 3, .int (1 + m)]) ht)
      refine ⟨p, t, _, rfl, st5.pen, htn.2, upd_same, by show 1 ≤ 5; decide, by show 5 ≤ 1000; decide, fun v H6 hv6 st6 => ?_⟩
      obtain ⟨x, rfl, hx1, hx2⟩ : ∃ x, v = V.int x ∧ 1 ≤ x ∧ x ≤ 20 := by
        simp only [List.mem_cons, List.not_mem_nil, or_false] at hv6
        rcases hv6 with rfl | rfl | rfl | rfl | rfl
        · exact ⟨1, rfl, by decide, by decide⟩
        · exact ⟨1, rfl, by decide, by decide⟩
        · exact ⟨2, rfl, by decide, by decide⟩
        · exact ⟨3, rfl, by decide, by decide⟩
        · exact ⟨1 + m, rfl, by (first | lia | omega), by (first | lia | omega)⟩
      have st7 := st5.trans st6
      have hd4 : H4 d = some (.dT (es.map ent)) := st4.keep d _ hdp (st3.keep d _ hdp (st2.keep d _ hdp hd'))
      have hd6 : H6 d = some (.dT (es.map ent)) := st6.keep d _ hdp (same_upd (o := .lst [.int 1, .int 1, .int 2, .int 3, .int (1 + m)]) ht _ _ hd4)
      refine ⟨_, rfl, _, rfl, _, rfl, by show 2 ≤ sizeLine; decide, fun k hk => ?_⟩
      have hkd : d ≠ k := fun z => by rw [← z, hd6] at hk; cases hk
      have hd8 : (upd H6 k (.tup [.int hh, .int sn])) d = some (.dT (es.map ent)) := by rw [upd_ne hkd]; exact hd6
      have hkt : (upd H6 k (.tup [.int hh, .int sn])) k = some (.tup (([Sum.inl hh, Sum.inl sn] : List Key).map kV)) := by rw [upd_same]; rfl
      refine ⟨d, _, rfl, DPut.t hd8 hkt (by rw [List.length_map]; exact small1000 (by (first | lia | omega))), ?_⟩
      rw [putK_ent]
      have hl2 := putC_len es hh sn x
      refine ⟨⟨_, _, _, rfl⟩, (st7.same (same_upd hk)).updO hd hp, putC es hh sn x, upd_same, putC_keys es hh sn x hn, putC_all hb ⟨⟨hhb, ⟨s0, by have := Gc.l6; show sn ≤ 5; (first | lia | omega)⟩, hx1, hx2⟩, s1⟩, by (first | lia | omega), fun _ => hl2.2⟩
    · rintro σ H' ⟨⟨o4, o5, o6, rfl⟩, st, es, hd', hn, hb, hlen, h1⟩
      have hel : es.length ≤ 8 := by (first | lia | omega)
      have he1 : 1 ≤ es.length := h1 (by (first | lia | omega))
      refine ⟨_, rfl, d, _, rfl, hd', fun o Z l hl0 => ?_⟩
      have stf : Stp p H (upd H' d (.frz o (.dT (es.map ent)))) := st.updO hd hp
      have hln := stf.none hl0
      have hld : l ≠ d := fun z => by rw [z, upd_same] at hl0; cases hl0
      refine for_items (fun i σ H2 => σ.length = 2 ∧ H2 d = some (.frz o (.dT (es.map ent))) ∧ Stp p H H2 ∧ ∃ zs : List (Addr × List Int), H2 l = some (.lst (zs.map fun z => V.ref z.1)) ∧ zs.map (·.2) = (es.take i).map row ∧ ∀ z ∈ zs, H2 z.1 = some (.tup (z.2.map V.int)))
        ⟨rfl, by rw [upd_ne hld.symm, upd_same], stf.updO hln.1 hp, [], by rw [upd_same]; rfl, rfl, fun z hz => by cases hz⟩ (fun i σ H2 h => h.2.1) ?_ ?_
      · rintro i k x pp b σ H2 hki ⟨hσ, hfz, st2, zs, hl2, hzr, hza⟩ hpp hb2
        match σ, hσ with
        | [x0, x1], _ =>
        rw [List.getElem?_map] at hki
        cases hei : es[i]? with
        | none => rw [hei] at hki; cases hki
        | some cc =>
        rw [hei] at hki
        have hke : ent cc = (k, x) := Option.some.inj hki
        have ek : k = [Sum.inl cc.1, Sum.inl cc.2.1] := (Prod.mk.inj hke).1.symm
        have ex : x = V.int cc.2.2 := (Prod.mk.inj hke).2.symm
        subst ek ex
        have hi : i < es.length := (List.getElem?_eq_some_iff.mp hei).1
        have hzl : zs.length ≤ i := by
          have := congrArg List.length hzr
          rw [List.length_map, List.length_map, List.length_take] at this; (first | lia | omega)
        have s3 := same_upd (o := .tup [.ref b, .int cc.2.2]) hpp
        refine ⟨pp, _, rfl, SqT.of upd_same, rfl, _, _, rfl, _, _, rfl, rfl, ?_⟩
        refine body_all ?_
        refine ⟨_, rfl, _, rfl, by show 1 ≤ sizeLine; decide, fun t ht => ?_⟩
        have s4 := same_upd (o := .tup [.int cc.2.2]) ht
        refine ⟨b, t, _, [.int cc.2.2], rfl, rfl, s4 _ _ (s3 _ _ hb2), upd_same, by show 2 + 1 ≤ sizeLine; decide, fun u H5 s5 hu5 => ?_⟩
        have s35 := (s3.trans s4).trans s5
        have hl5 := s35 _ _ hl2
        refine ⟨_, hl5, small1000 (by rw [List.length_map]; (first | lia | omega)), rfl, ?_, (st2.same s35).updO hln.1 hp, zs ++ [(u, row cc)], ?_, ?_, fun z hz => ?_⟩
        · rw [upd_ne hld.symm]; exact s35 _ _ hfz
        · rw [upd_same, List.map_append]; rfl
        · rw [List.map_append, hzr, List.take_succ, hei, List.map_append]; rfl
        · have up : ∀ a xs, H5 a = some (.tup xs) → (upd H5 l (.lst (zs.map (fun z => V.ref z.1) ++ [.ref u]))) a = some (.tup xs) := fun a xs e => by rw [upd_ne (fun z => by rw [z, hl5] at e; cases e)]; exact e
          rcases List.mem_append.mp hz with z' | z'
          · exact up _ _ (s35 _ _ (hza z z'))
          · rw [List.mem_singleton.mp z']; exact up _ _ hu5
      · rintro σ H2 ⟨_, _, st2, zs, hl2, hzr, hza⟩
        rw [List.length_map, List.take_of_length_le (Nat.le_refl _)] at hzr
        have hzl : zs.length = es.length := by
          have := congrArg List.length hzr
          simpa using this
        refine ⟨l, zs, rfl, SqL.of hl2, fun z hz => ⟨hza z hz, fun e => ?_⟩, by (first | lia | omega), fun l2 zs' hl3 hs2 => ?_⟩
        · have hm : z.2 ∈ es.map row := by rw [← hzr]; exact List.mem_map_of_mem hz
          obtain ⟨c', _, e'⟩ := List.mem_map.mp hm
          rw [← e'] at e; cases e
        have s3 := same_upd (o := .lst (zs'.map fun z => V.ref z.1)) hl3
        obtain ⟨gO, gP, gR⟩ := clOk_of hzr hs2 he1 (by (first | lia | omega)) (fun x hx => (hb x hx).1) hn
        refine ⟨l2, _, rfl, .inl ⟨SqL.of upd_same, fun a ha => ?_⟩⟩
        have s4 := same_upd (o := .tup (zs'.map fun z => V.ref z.1)) ha
        refine q a (zs'.map fun z => unrow z.2) _ ((st2.same s3).same s4) ⟨zs'.map (·.1), by rw [upd_same, List.map_map]; rfl, ?_⟩ gO fun x hx => (hb x (gP.mem_iff.mp hx)).2
        have go : ∀ ys : List (Addr × List Int), (∀ z ∈ ys, z ∈ zs') → ClP (upd (upd H2 l2 (.lst (zs'.map fun z => V.ref z.1))) a (.tup (zs'.map fun z => V.ref z.1))) (ys.map (·.1)) (ys.map fun z => unrow z.2) := fun ys => by
          induction ys with
          | nil => intro _; exact .nil
          | cons y ys ih =>
            intro hy
            refine .cons ?_ (ih fun z hz => hy z (List.mem_cons_of_mem _ hz))
            have hy' := hy y List.mem_cons_self
            have e := hza y (hs2.1.mem_iff.mp hy')
            rw [gR y hy'] at e
            exact s4 _ _ (s3 _ _ e)
        exact go zs' fun z hz => hz
end
end M05
set_option Elab.async false
set_option linter.all false
set_option maxRecDepth 100000
set_option maxHeartbeats 4000000
namespace M05
open PySem L2 PyProof.Rows Set4
noncomputable abbrev sChkClaim : Stmt := top 24
noncomputable abbrev sLaid : Stmt := top 36
noncomputable abbrev sDenied : Stmt := top 37
noncomputable def NumOk (c : C3) : Prop := (0 ≤ c.1 ∧ c.1 ≤ 3) ∧ (0 ≤ c.2.1 ∧ c.2.1 ≤ 5) ∧ 1 ≤ c.2.2 ∧ c.2.2 ≤ 20
noncomputable abbrev tupC (c : C3) : HO := .tup [.int c.1, .int c.2.1, .int c.2.2]
noncomputable def spChkClaim : Sp := fun vs H Q _ => ∃ (b : Addr) (c : C3), vs = [.ref b] ∧ H b = some (tupC c) ∧ NumOk c ∧ Q .non H
noncomputable def spLaid : Sp := fun vs H Q _ => ∃ a b cl c, vs = [.ref a, .ref b] ∧ ClT H a cl ∧ ClOk cl ∧ H b = some (tupC c) ∧ NumOk c ∧ (∀ x ∈ cl, key2 x ≠ key2 c) ∧ cl.length < 12 ∧ ∀ a' cl' H', Same H H' → ClT H' a' cl' → ClOk cl' → cl'.Perm (cl ++ [c]) → Q (.ref a') H'
noncomputable def spDenied : Sp := fun vs H Q _ => ∃ a b cl c, vs = [.ref a, .ref b] ∧ ClT H a cl ∧ ClOk cl ∧ H b = some (tupC c) ∧ NumOk c ∧ c ∈ cl ∧ 2 ≤ cl.length ∧ ∀ a' H', Same H H' → ClT H' a' (cl.filter fun x => decide (x ≠ c)) → Q (.ref a') H'
theorem clP_zs {H : Hp} : ∀ {bs : List Addr} {cl : List C3}, ClP H bs cl → ∃ zs : List (Addr × List Int), zs.map (·.1) = bs ∧ zs.map (·.2) = cl.map row ∧ ∀ z ∈ zs, H z.1 = some (.tup (z.2.map V.int)) ∧ z.2 ≠ []
  | [], [], .nil => ⟨[], rfl, rfl, fun z hz => by cases hz⟩
  | b :: bs, c :: cl, .cons r t => by
    obtain ⟨zs, h1, h2, h3⟩ := clP_zs t
    refine ⟨(b, row c) :: zs, by rw [List.map_cons, h1], by rw [List.map_cons, List.map_cons, h2], fun z hz => ?_⟩
    rcases List.mem_cons.mp hz with rfl | hz
    · exact ⟨r, by unfold row; simp⟩
    · exact h3 z hz
theorem clT_of {H : Hp} {a : Addr} {zs : List (Addr × List Int)} (ha : H a = some (.tup (zs.map fun z => V.ref z.1))) (hz : ∀ z ∈ zs, H z.1 = some (.tup ((row (unrow z.2)).map V.int))) : ClT H a (zs.map fun z => unrow z.2) := by
  refine ⟨zs.map (·.1), by rw [ha, List.map_map]; rfl, ?_⟩
  have go : ∀ ys : List (Addr × List Int), (∀ z ∈ ys, z ∈ zs) → ClP H (ys.map (·.1)) (ys.map fun z => unrow z.2) := fun ys => by
    induction ys with
    | nil => intro _; exact .nil
    | cons y ys ih =>
      intro hy
      exact .cons (hz y (hy y List.mem_cons_self)) (ih fun z hz => hy z (List.mem_cons_of_mem _ hz))
  exact go zs fun _ h => h
theorem hu1_of {A : Around} {k : Nat} (hr : Room k A) : A.units + 1 + 1 < cLine := Nat.lt_of_le_of_lt (Nat.add_le_add_left (by decide : 2 ≤ 64) _) hr.units
theorem boot_any' : bootBuiltins "any" = some (.builtin "any") := by decide +kernel
theorem keys_nodup {cl : List C3} (G : ClOk cl) : (cl.map key2).Nodup := by
  rw [List.nodup_iff_pairwise_ne]
  refine G.up.imp fun {a b} h e => ?_
  rw [e] at h
  unfold lt2 at h
  rw [HT.lexLt_cons, if_pos rfl, HT.lexLt_cons, if_pos rfl] at h
  cases h
section
variable {P : Program} {w : World} {K : PySem.W.Frag} {mg : Str → Option Value} {base : Heap}
theorem scChkClaim : FnScope ["claim"] ["claim"] (defScope sChkClaim) := ⟨rfl, rfl, rfl, by decide +kernel, rfl, by decide +kernel, by decide +kernel⟩
theorem ok_chkClaim {f g1 : Addr} {fd d1 : FuncData} (F : Fun K "check_claim" "check_claim" sChkClaim f fd) (a1 : At P w K mg base 3 "is_claim" g1 d1 ["thing"] spClaim) : FnOk P w K mg base CX0 4 f fd ["claim"] spChkClaim := by
  refine F.ok scChkClaim (fun vs H Q E h => ?_) (fun cdv A outer s H vs Q E hr h => ?_)
  · obtain ⟨b, c, rfl, _⟩ := h; rfl
  · obtain ⟨b, c, rfl, hb, hn, q⟩ := h
    refine ⟨_, pss_one (ps_if (pt_not (pt_val (pe_call a1.ok hr rfl a1.nm a1.kp a1.bd .nil pass0 (pa_v (pv 0) pa_nil)))) pss_never pss_nil), ?_⟩
    exact ⟨_, rfl, b, c, rfl, hb, hn, _, rfl, iteF q⟩
theorem scLaid : FnScope ["claims", "claim"] ["claims", "claim"] (defScope sLaid) := ⟨rfl, rfl, rfl, by decide +kernel, rfl, by decide +kernel, by decide +kernel⟩
theorem ndOC : (["one", "claim"] : List Str).Nodup := by decide +kernel
theorem ok_laid {f g1 g2 : Addr} {fd d1 d2 : FuncData} (F : Fun K "laid" "laid" sLaid f fd) (T : Txt mg) (a1 : At P w K mg base 5 "check_claims" g1 d1 ["claims"] spChkClaims) (a2 : At P w K mg base 4 "check_claim" g2 d2 ["claim"] spChkClaim) : FnOk P w K mg base CX0 6 f fd ["claims", "claim"] spLaid := by
  obtain ⟨t1, mC⟩ := T.claims
  refine F.ok scLaid (fun vs H Q E h => ?_) (fun cdv A outer s H vs Q E hr h => ?_)
  · obtain ⟨a, b, cl, c, rfl, _⟩ := h; rfl
  · obtain ⟨a, b, cl, c, rfl, hA, G, hb, hn, hk, h12, q⟩ := h
    have hu := hu1_of hr
    refine ⟨_, pss_cons (ps_expr (pe_call a1.ok hr rfl a1.nm a1.kp a1.bd .nil pass0 (pa_v (pv 0) pa_nil))) <|
      pss_cons (ps_expr (pe_call a2.ok (hr.mono (by decide)) rfl a2.nm a2.kp a2.bd .nil pass0 (pa_v (pv 1) pa_nil))) <|
      pss_cons (ps_if (pt_val (pe_callB (call_any rfl) rfl T.any boot_any' (pa_lc (pe_comp1 (defScope sLaid).names ["claims", "claim"] ["one"] [("claim", 1)] rfl (pi_tup (pv 0)) rfl rfl rfl (by decide +kernel)
        (fun Z => pg_name (i := 0) ndOC rfl (Or.inl rfl)) (fun Z => pts_nil) (fun Z => pe_cmpR (op_eqD 1 hu) (pe_slice sl_tupU (pv 0) po_none (po_some pe_int)) (pe_slice sl_tupU (pv 1) po_none (po_some pe_int)) (nomark _))) pa_nil))) pss_never pss_nil) <|
      pss_cons (ps_if (pt_cmpR op_eq (pe_callB call_len_seq rfl T.len PySem.boot_len (pa_v (pv 0) pa_nil)) (pe_glob (v := .int 12) rfl mC ⟨_, rfl⟩) (nomark _)) pss_never pss_nil) <|
      pss_one (ps_ret (pe_callTy call_tuple_of rfl T.tuple boot_tuple (pa_k (pe_callB call_sortedU rfl T.sorted boot_sorted (pa_b (pe_op op_catU (pv 0) (pe_tup (pa_v (pv 1) pa_nil))) pa_nil)) pa_nil))), ?_⟩
    refine ⟨_, rfl, a, cl, rfl, hA, G, fun H1 s1 => ?_⟩
    refine ⟨_, rfl, b, c, rfl, s1 _ _ hb, hn, ?_⟩
    obtain ⟨bs, ha, hC⟩ := hA.ext s1.ext
    have hl : bs.length = cl.length := Paired.length hC
    have hb1 := s1 _ _ hb
    refine ⟨_, rfl, a, rfl, ⟨_, SqT.of ha⟩, fun Z l hl0 => ?_⟩
    refine comp_map (rest := [some (.ref b)]) (fun _ => .bl false) ha hl0 (by rw [List.length_map]; (first | lia | omega)) (fun x H' Q' hm hs hq => ?_) fun σ H2 s2 hl2 => ?_
    · obtain ⟨b', hb', rfl⟩ := List.mem_map.mp hm
      obtain ⟨i, hi⟩ := List.getElem?_of_mem hb'
      obtain ⟨y, hy, he⟩ := hC.get hi
      have hky := hk y (List.mem_of_getElem? hy)
      refine ⟨_, rfl, _, rfl, b', _, rfl, hs _ _ he, fun p1 H3 s3 hp1 => ?_⟩
      refine ⟨_, rfl, _, rfl, b, _, rfl, s3 _ _ (hs _ _ hb1), fun p2 H4 s4 hp2 => ?_⟩
      refine ⟨p1, p2, [.int y.1, .int y.2.1], [.int c.1, .int c.2.1], [decide (y.1 = c.1), decide (y.2.1 = c.2.1)], rfl, rfl, .inl ⟨s4 _ _ hp1, hp2⟩, ⟨EqD.int _ _ _, EqD.int _ _ _, trivial⟩, ?_⟩
      have e : [decide (y.1 = c.1), decide (y.2.1 = c.2.1)].all id = false := by
        rw [Bool.eq_false_iff]
        intro z
        simp only [List.all_cons, List.all_nil, id, Bool.and_true, Bool.and_eq_true, decide_eq_true_eq] at z
        exact hky (by unfold key2; rw [z.1, z.2])
      rw [e]
      exact hq _ (s3.trans s4)
    · refine ⟨l, bs.map fun _ => false, rfl, SqL.of (by rw [hl2]; simp only [List.map_map]; rfl), _, rfl, ?_⟩
      rw [show (bs.map fun _ => false).any id = false by rw [List.any_map, List.any_eq_false]; intro x _; simp]
      refine iteF ?_
      have ha2 := s2 _ _ ha
      refine ⟨_, rfl, a, _, rfl, .inr (SqT.of ha2), rfl, _, rfl, ite2d (fun hz => ?_) fun _ => ?_⟩
      · exfalso
        rw [List.length_map] at hz
        have := V.int.inj hz
        (first | lia | omega)
      refine ⟨_, rfl, _, rfl, by show 1 ≤ sizeLine; decide, fun t ht => ?_⟩
      have s3 := same_upd (o := .tup [.ref b]) ht
      refine ⟨a, t, _, [.ref b], rfl, rfl, s3 _ _ ha2, upd_same, by rw [List.length_map, sizeLine_eq]; show _ + 1 ≤ _; (first | lia | omega), fun u H4 s4 hu4 => ?_⟩
      have sA := (s2.trans s3).trans s4
      obtain ⟨zs, z1, z2, z3⟩ := clP_zs (hC.ext sA.ext)
      refine ⟨u, zs ++ [(b, row c)], rfl, SqT.of (by rw [hu4, List.map_append, ← z1, List.map_map]; rfl), fun z hz => ?_, by rw [List.length_append]; have := congrArg List.length z2; rw [List.length_map, List.length_map] at this; show zs.length + 1 < 64; (first | lia | omega), fun l2 zs' hl3 hs2 => ?_⟩
      · rcases List.mem_append.mp hz with y | y
        · exact z3 z y
        · rw [List.mem_singleton.mp y]
          exact ⟨sA _ _ hb1, by unfold row; simp⟩
      have hzr : (zs ++ [(b, row c)]).map (·.2) = (cl ++ [c]).map row := by rw [List.map_append, z2, List.map_append]; rfl
      obtain ⟨gO, gP, gR⟩ := clOk_of hzr hs2 (by rw [List.length_append]; show 1 ≤ cl.length + 1; (first | lia | omega)) (by rw [List.length_append]; show cl.length + 1 ≤ 12; (first | lia | omega)) (fun x hx => by
          rcases List.mem_append.mp hx with y | y
          · exact G.num x y
          · rw [List.mem_singleton.mp y]; exact hn) (by
        rw [List.map_append, List.nodup_append]
        refine ⟨keys_nodup G, by simp, fun x hx y hy e => ?_⟩
        obtain ⟨d, hd, rfl⟩ := List.mem_map.mp hx
        have hy' : y = key2 c := by simpa using hy
        exact hk d hd (e.trans hy'))
      have s5 := same_upd (o := .lst (zs'.map fun z => V.ref z.1)) hl3
      refine ⟨l2, _, rfl, .inl ⟨SqL.of upd_same, fun a' ha' => ?_⟩⟩
      have s6 := same_upd (o := .tup (zs'.map fun z => V.ref z.1)) ha'
      refine q a' _ _ ((((s1.trans sA)).trans s5).trans s6) (clT_of upd_same fun z hz => ?_) gO gP
      have hm := hs2.1.mem_iff.mp hz
      rw [← gR z hz]
      rcases List.mem_append.mp hm with y | y
      · exact s6 _ _ (s5 _ _ (z3 z y).1)
      · rw [List.mem_singleton.mp y]; exact s6 _ _ (s5 _ _ (sA _ _ hb1))
end
end M05
set_option Elab.async false
set_option linter.all false
set_option maxRecDepth 100000
set_option maxHeartbeats 4000000
namespace M05
open PySem L2 PyProof.Rows Set4
noncomputable def eq3 (y c : C3) : Bool := [decide (y.1 = c.1), decide (y.2.1 = c.2.1), decide (y.2.2 = c.2.2)].all id
theorem eq3_eq (y c : C3) : eq3 y c = decide (y = c) := by
  obtain ⟨y1, y2, y3⟩ := y
  obtain ⟨c1, c2, c3⟩ := c
  unfold eq3
  rw [Bool.eq_iff_iff]
  simp only [List.all_cons, List.all_nil, id, Bool.and_true, Bool.and_eq_true, decide_eq_true_eq, Prod.mk.injEq]
theorem e3_row {H : Hp} {n : Nat} (y c : C3) : E3 (EqD H n) [.int y.1, .int y.2.1, .int y.2.2] [.int c.1, .int c.2.1, .int c.2.2] [decide (y.1 = c.1), decide (y.2.1 = c.2.1), decide (y.2.2 = c.2.2)] := ⟨EqD.int _ _ _, EqD.int _ _ _, EqD.int _ _ _, trivial⟩
theorem eqD_row {H : Hp} {b' b : Addr} {y c : C3} (h1 : H b' = some (tupC y)) (h2 : H b = some (tupC c)) : EqD H 1 (.ref b') (.ref b) (eq3 y c) := .inr ⟨b', b, _, _, _, rfl, rfl, .inl ⟨h1, h2⟩, e3_row y c, rfl⟩
theorem e3_cl {H : Hp} {b : Addr} {c : C3} (hb : H b = some (tupC c)) : ∀ {bs : List Addr} {cl : List C3}, ClP H bs cl → E3 (EqD H 1) (bs.map V.ref) ((bs.map V.ref).map fun _ => V.ref b) (cl.map fun y => eq3 y c)
  | [], [], .nil => trivial
  | _ :: _, _ :: _, .cons r t => ⟨eqD_row r hb, e3_cl hb t⟩
theorem e3_two {H : Hp} : ∀ (cl : List C3) {bs bs' : List Addr}, ClP H bs cl → ClP H bs' cl → ∃ ks, E3 (EqD H 1) (bs.map V.ref) (bs'.map V.ref) ks ∧ ks.all id = true
  | [], bs, bs', h, h' => by
    cases h; cases h'
    exact ⟨[], trivial, rfl⟩
  | c :: cl, bs, bs', h, h' => by
    cases h with
    | cons r t =>
      cases h' with
      | cons r' t' =>
        obtain ⟨ks, h1, h2⟩ := e3_two cl t t'
        refine ⟨eq3 c c :: ks, ⟨eqD_row r r', h1⟩, ?_⟩
        rw [List.all_cons, h2, eq3_eq]
        simp
section
variable {P : Program} {w : World} {K : PySem.W.Frag} {mg : Str → Option Value} {base : Heap}
theorem scDenied : FnScope ["claims", "claim"] ["claims", "claim"] (defScope sDenied) := ⟨rfl, rfl, rfl, by decide +kernel, rfl, by decide +kernel, by decide +kernel⟩
theorem ok_denied {f g1 g2 : Addr} {fd d1 d2 : FuncData} (F : Fun K "denied" "denied" sDenied f fd) (T : Txt mg) (a1 : At P w K mg base 5 "check_claims" g1 d1 ["claims"] spChkClaims) (a2 : At P w K mg base 4 "check_claim" g2 d2 ["claim"] spChkClaim) : FnOk P w K mg base CX0 6 f fd ["claims", "claim"] spDenied := by
  refine F.ok scDenied (fun vs H Q E h => ?_) (fun cdv A outer s H vs Q E hr h => ?_)
  · obtain ⟨a, b, cl, c, rfl, _⟩ := h; rfl
  · obtain ⟨a, b, cl, c, rfl, hA, G, hb, hn, hm, h2, q⟩ := h
    have hu := hu1_of hr
    refine ⟨_, pss_cons (ps_expr (pe_call a1.ok hr rfl a1.nm a1.kp a1.bd .nil pass0 (pa_v (pv 0) pa_nil))) <|
      pss_cons (ps_expr (pe_call a2.ok (hr.mono (by decide)) rfl a2.nm a2.kp a2.bd .nil pass0 (pa_v (pv 1) pa_nil))) <|
      pss_cons (ps_if (pt_cmpR (op_notInD 1 hu) (pv 1) (pv 0) rfl) pss_never pss_nil) <|
      pss_cons (ps_if (pt_cmpR op_eq (pe_callB call_len_seq rfl T.len PySem.boot_len (pa_v (pv 0) pa_nil)) pe_int (nomark _)) pss_never pss_nil) <|
      pss_one (ps_ret (pe_callTy call_tuple_of rfl T.tuple boot_tuple (pa_lc (pe_comp1 (defScope sDenied).names ["claims", "claim"] ["one"] [("claim", 1)] rfl (pi_tup (pv 0)) rfl rfl rfl (by decide +kernel)
        (fun Z => pg_name (i := 0) ndOC rfl (Or.inl rfl)) (fun Z => pts_one (pt_cmpR (op_neD 0 (hu_of hr)) (pv 0) (pv 1) (nomark _))) (fun Z => pv 0)) pa_nil))), ?_⟩
    refine ⟨_, rfl, a, cl, rfl, hA, G, fun H1 s1 => ?_⟩
    refine ⟨_, rfl, b, c, rfl, s1 _ _ hb, hn, ?_⟩
    obtain ⟨bs, ha, hC⟩ := hA.ext s1.ext
    have hl : bs.length = cl.length := Paired.length hC
    have h12 := G.l12
    have hb1 := s1 _ _ hb
    refine ⟨_, rfl, _, rfl, a, _, _, rfl, .inl ha, e3_cl hb1 hC, _, rfl, ?_⟩
    have e1 : (cl.map fun y => eq3 y c).any id = true := by
      rw [List.any_map, List.any_eq_true]
      exact ⟨c, hm, by show eq3 c c = true; rw [eq3_eq]; simp⟩
    rw [e1]
    refine iteF ?_
    refine ⟨_, rfl, a, _, rfl, .inr (SqT.of ha), rfl, _, rfl, ite2d (fun hz => ?_) fun _ => ?_⟩
    · exfalso
      rw [List.length_map] at hz
      have := V.int.inj hz
      (first | lia | omega)
    refine ⟨_, rfl, a, rfl, ⟨_, SqT.of ha⟩, fun Z l hl' => ?_⟩
    refine comp_clN (fun x => decide (x ≠ c)) wk_tup (fun H' hs => SqT.of (hs _ _ ha)) hC hl' (by (first | lia | omega)) (fun b' y H' Q' he hs hq => ?_) fun σ H' bs' hs hl2 hC2 => ?_
    · refine ⟨_, rfl, _, rfl, b', b, _, _, _, rfl, rfl, .inl ⟨he, hs _ _ hb1⟩, e3_row y c, _, rfl, ?_⟩
      have ed : (!([decide (y.1 = c.1), decide (y.2.1 = c.2.1), decide (y.2.2 = c.2.2)].all id)) = decide (y ≠ c) := by
        show (!(eq3 y c)) = _
        rw [eq3_eq]; simp
      rw [ed]
      exact hq _ (Same.refl _)
    · refine ⟨l, _, rfl, .inl ⟨SqL.of hl2, fun a' ha' => ?_⟩⟩
      have s3 := same_upd (o := .tup (bs'.map V.ref)) ha'
      exact q a' _ ((s1.trans hs).trans s3) ⟨bs', upd_same, Paired.mapP hC2 fun _ _ e => s3 _ _ e⟩
end
end M05
set_option Elab.async false
set_option linter.all false
set_option maxRecDepth 100000
set_option maxHeartbeats 4000000
namespace L2
open PySem PySem.Spec PyProof.Rows
theorem comp_clF {K : PySem.W.Frag} {J : It} {S : Hp → Prop} {l : Addr} {bs : List Addr} {cl : List C3} {tt : TT} {te : TE} {H0 : Hp} {rest : St} {Q : St → Hp → Prop} (W : Wk J (bs.map V.ref) S) (hS : ∀ H', Same H0 H' → S H') (hC : ClP H0 bs cl) (hl : H0 l = none) (hz : bs.length ≤ 1000) (p : C3 → Bool) (f : C3 → V)
    (tst : ∀ c H' Q', c ∈ cl → Same H0 H' → (∀ H2, Same H' H2 → Q' (p c) H2) → tt (some (.int c.1) :: some (.int c.2.1) :: some (.int c.2.2) :: rest) H' Q')
    (turn : ∀ c H' Q', c ∈ cl → p c = true → Same H0 H' → (∀ H2, Same H' H2 → Q' (f c) H2) → te (some (.int c.1) :: some (.int c.2.1) :: some (.int c.2.2) :: rest) H' Q') (hQ : ∀ σ H', Same H0 H' → H' l = some (.lst ((cl.filter p).map f)) → Q σ H') :
    tForJ J (gTup K 3 (gCons (gName 0) (gCons (gName 1) (gCons (gName 2) gNil)))) (tBodyC tt (tEmit l te)) (eC Q) (none :: none :: none :: rest) (upd H0 l (.lst [])) := by
  have hlen : bs.length = cl.length := Paired.length hC
  refine W (fun i σ H' => (∃ x y z, σ = x :: y :: z :: rest) ∧ Same H0 H' ∧ H' l = some (.lst (((cl.take i).filter p).map f))) ⟨⟨_, _, _, rfl⟩, same_upd hl, by rw [upd_same]; rfl⟩ (fun i σ H' _ h => hS _ h.2.1) ?_ ?_
  · rintro i x σ H' hx ⟨⟨x0, y0, z0, rfl⟩, hs, hl'⟩
    rw [List.getElem?_map] at hx
    cases hb : bs[i]? with
    | none => rw [hb] at hx; cases hx
    | some b =>
      rw [hb] at hx; cases hx
      obtain ⟨c, hc, he⟩ := hC.get hb
      have hi : i < bs.length := (List.getElem?_eq_some_iff.mp hb).1
      have et : (cl.take (i + 1)).filter p = (cl.take i).filter p ++ (if p c = true then [c] else []) := by
        rw [List.take_succ, hc, List.filter_append]
        congr 1
        by_cases z : p c = true
        · simp [z]
        · simp [z]
      refine ⟨b, _, rfl, SqT.of (hs _ _ he), rfl, _, _, rfl, _, _, rfl, _, _, rfl, rfl, ?_⟩
      refine tst c H' _ (List.mem_of_getElem? hc) hs fun H2 h2 => ?_
      refine iteB (fun hz' => ?_) fun hz' => ?_
      · refine turn c H2 _ (List.mem_of_getElem? hc) hz' (hs.trans h2) fun H3 h3 => ?_
        have hfl := List.length_filter_le p (cl.take i)
        rw [List.length_take] at hfl
        refine ⟨_, h3 _ _ (h2 _ _ hl'), small1000 (by rw [List.length_map]; (first | lia | omega)), ⟨_, _, _, rfl⟩, fun b u e => ?_, ?_⟩
        · rw [upd_ne (ne_of_none e hl)]; exact h3 _ _ (h2 _ _ (hs _ _ e))
        · rw [upd_same, et, if_pos hz', List.map_append]; rfl
      · refine ⟨⟨_, _, _, rfl⟩, hs.trans h2, ?_⟩
        rw [et, if_neg (by rw [hz']; decide), List.append_nil]; exact h2 _ _ hl'
  · rintro σ H' ⟨_, hs, hl'⟩
    rw [List.length_map, hlen, List.take_of_length_le (Nat.le_refl _)] at hl'
    exact hQ σ H' hs hl'
end L2
namespace M05
open PySem L2 PyProof.Rows Set4
noncomputable abbrev sRights : Stmt := top 38
noncomputable def classBody (s : Stmt) : List Stmt := match s with | .ClassDef _ _ _ b _ _ _ _ _ _ _ => b | _ => []
noncomputable abbrev sInit : Stmt := (classBody (top 8)).getD 0 (.Pass ⟨0, 0, 0, 0⟩)
noncomputable def isR (i j s : Int) (c : C3) : Bool := (decide (i = c.1) || decide (j = c.1)) && decide (c.2.1 = s)
noncomputable def rt (cl : List C3) (i j s : Int) : Int := ((cl.filter (isR i j s)).map (·.2.2)).sum
noncomputable def spRights : Sp := fun vs H Q _ => ∃ a h s cl i j, vs = [.ref a, .ref h, .int s] ∧ ClT H a cl ∧ cl.length ≤ 12 ∧ (∀ c ∈ cl, 1 ≤ c.2.2 ∧ c.2.2 ≤ 20) ∧ H h = some (.tup [.int i, .int j]) ∧ ∀ H', Same H H' → Q (.int (rt cl i j s)) H'
noncomputable def spInit (C : Addr) : Sp := fun vs H Q _ => ∃ e t i j, vs = [.ref e, .int i, .int j] ∧ H e = some (exO e C t none) ∧ ∀ d, H d = none → d ≠ e → Q .non (upd (upd (upd H d (xdO d [("many", .int i)])) e (exO e C t (some d))) d (xdO d (putF "most" (.int j) [("many", .int i)])))
section
variable {P : Program} {w : World} {K : PySem.W.Frag} {mg : Str → Option Value} {base : Heap}
theorem scRights : FnScope ["claims", "holders", "sort"] ["claims", "holders", "sort"] (defScope sRights) := ⟨rfl, rfl, rfl, by decide +kernel, rfl, by decide +kernel, by decide +kernel⟩
theorem nd5r : (["holder", "other_sort", "many", "holders", "sort"] : List Str).Nodup := by decide +kernel
theorem ok_rights {f : Addr} {fd : FuncData} (F : Fun K "rights_of" "rights_of" sRights f fd) (T : Txt mg) : FnOk P w K mg base CX0 1 f fd ["claims", "holders", "sort"] spRights := by
  refine F.ok scRights (fun vs H Q E h => ?_) (fun cdv A outer s H vs Q E hr h => ?_)
  · obtain ⟨a, h, s, cl, i, j, rfl, _⟩ := h; rfl
  · obtain ⟨a, h, sr, cl, i, j, rfl, ⟨bs, ha, hC⟩, h12, hb, hh, q⟩ := h
    have hl : bs.length = cl.length := Paired.length hC
    refine ⟨_, pss_one (ps_ret (pe_callB (call_sumK rfl) rfl T.sum boot_sum (pa_lc (pe_comp1 (defScope sRights).names ["claims", "holders", "sort"] ["holder", "other_sort", "many"] [("holders", 1), ("sort", 2)] rfl (pi_tup (pv 0)) rfl rfl rfl (by decide +kernel)
      (fun Z => pg_tup rfl (pgs_cons (pg_name (i := 0) nd5r rfl (Or.inl rfl)) (pgs_cons (pg_name (i := 1) nd5r rfl (Or.inl rfl)) (pgs_cons (pg_name (i := 2) nd5r rfl (Or.inl rfl)) pgs_nil))))
      (fun Z => pts_one (PW.pt (pw_and (pt_cmpR (op_inD 0 (hu_of hr)) (pv 0) (pv 3) rfl) (pw_and1 (pt_cmpR op_eq (pv 1) (pv 4) (nomark _))))))
      (fun Z => pv 2)) pa_nil))), ?_⟩
    refine ⟨_, rfl, a, rfl, ⟨_, SqT.of ha⟩, fun Z l hl' => ?_⟩
    refine comp_clF (rest := [some (.ref h), some (.int sr)]) wk_tup (fun H' hs => SqT.of (hs _ _ ha)) hC hl' (by (first | lia | omega)) (isR i j sr) (fun c => .int c.2.2) (fun c H' Q' hm hs hq => ?_) (fun c H' Q' hm _ hs hq => ⟨_, rfl, hq _ (Same.refl _)⟩) fun σ H1 hs1 hl1 => ?_
    · refine ⟨_, rfl, _, rfl, h, [.int i, .int j], [decide (i = c.1), decide (j = c.1)], rfl, .inl (hs _ _ hh), ⟨EqD.int _ _ _, EqD.int _ _ _, trivial⟩, _, rfl, ?_⟩
      have e1 : [decide (i = c.1), decide (j = c.1)].any id = (decide (i = c.1) || decide (j = c.1)) := by simp
      have e2 : decide (V.int c.2.1 = V.int sr) = decide (c.2.1 = sr) := decide_eq_decide.mpr ⟨fun z => V.int.inj z, fun z => by rw [z]⟩
      show if ([decide (i = c.1), decide (j = c.1)].any id) = true then _ else _
      rw [e1]
      refine iteB (fun hz => ?_) fun hz => ?_
      · refine ⟨_, rfl, _, rfl, rfl, _, rfl, ?_⟩
        rw [e2]
        have := hq H' (Same.refl _)
        unfold isR at this
        rw [hz, Bool.true_and] at this
        exact this
      · have := hq H' (Same.refl _)
        unfold isR at this
        rw [hz, Bool.false_and] at this
        exact this
    · have hfl := List.length_filter_le (isR i j sr) cl
      refine ⟨l, (cl.filter (isR i j sr)).map (fun c : C3 => c.2.2), rfl, SqL.of (by rw [hl1, List.map_map]; rfl), by rw [List.length_map]; (first | lia | omega), fun n hn => ?_, q H1 hs1⟩
      obtain ⟨c, hc, rfl⟩ := List.mem_map.mp hn
      have := hb c (List.mem_filter.mp hc).1
      (first | lia | omega)
theorem scInit : FnScope ["self", "many", "most"] ["self", "many", "most"] (defScope sInit) := ⟨rfl, rfl, rfl, by decide +kernel, rfl, by decide +kernel, by decide +kernel⟩
theorem ok_init {f C : Addr} {fd : FuncData} (F : Fun K "__init__" "TooMany.__init__" sInit f fd) (c : ExcA K C) (n1 : NoAttr K C "many") (n2 : NoAttr K C "most") : FnOk P w K mg base CX0 1 f fd ["self", "many", "most"] (spInit C) := by
  refine F.ok scInit (fun vs H Q E h => ?_) (fun cdv A outer s H vs Q E hr h => ?_)
  · obtain ⟨e, t, i, j, rfl, _⟩ := h; rfl
  · obtain ⟨e, t, i, j, rfl, he, q⟩ := h
    refine ⟨_, pss_cons (ps_fldX (pv 0) (pv 1) rfl) (pss_one (ps_fldX (pv 0) (pv 2) rfl)), ?_⟩
    refine ⟨_, rfl, _, rfl, e, C, rfl, c, n1, .inl ⟨t, he, fun d hd hne => ?_⟩⟩
    refine ⟨_, rfl, _, rfl, e, C, rfl, c, n2, .inr ⟨t, d, [("many", .int i)], upd_same, by rw [upd_ne hne, upd_same], by show 1 < 1000; decide, ?_⟩⟩
    exact q d hd hne
end
end M05
set_option Elab.async false
set_option linter.all false
set_option maxRecDepth 100000
set_option maxHeartbeats 4000000
namespace M05
open PySem L2 PyProof.Rows Set4
noncomputable def isIJ (i j : Int) (c : C3) : Bool := decide (i = c.1) || decide (j = c.1)
noncomputable def keptL (cl : List C3) (i j : Int) : List C3 := cl.filter fun c => !isIJ i j c
noncomputable def sumsL (cl : List C3) (i j : Int) : List C3 := (List.range 6).map fun s : Nat => (i, (s : Int), rt cl i j (s : Int))
noncomputable def posL (cl : List C3) (i j : Int) : List C3 := (sumsL cl i j).filter fun c => decide (c.2.2 > 0)
noncomputable def joinL (cl : List C3) (i j : Int) : List C3 := keptL cl i j ++ posL cl i j
theorem rt_cons (c : C3) (cl : List C3) (i j s : Int) : rt (c :: cl) i j s = (if isR i j s c = true then c.2.2 else 0) + rt cl i j s := by
  unfold rt
  rw [List.filter_cons]
  by_cases h : isR i j s c = true
  · rw [if_pos h, if_pos h, List.map_cons, List.sum_cons]
  · rw [if_neg h, if_neg h]; (first | lia | omega)
theorem rt_nonneg {cl : List C3} (h : ∀ c ∈ cl, 1 ≤ c.2.2) (i j s : Int) : 0 ≤ rt cl i j s := by
  induction cl with
  | nil => simp [rt]
  | cons c cl ih =>
    rw [rt_cons]
    have h0 := h c List.mem_cons_self
    have := ih fun d hd => h d (List.mem_cons_of_mem _ hd)
    split <;> (first | lia | omega)
theorem rt_mem {cl : List C3} (h : ∀ c ∈ cl, 1 ≤ c.2.2) {i j s : Int} {c : C3} (hc : c ∈ cl) (hr : isR i j s c = true) : 1 ≤ rt cl i j s := by
  induction cl with
  | nil => cases hc
  | cons d cl ih =>
    rw [rt_cons]
    have hn := rt_nonneg (cl := cl) (fun d hd => h d (List.mem_cons_of_mem _ hd)) i j s
    have hd := h d List.mem_cons_self
    rcases List.mem_cons.mp hc with e | e
    · subst e; rw [if_pos hr]; (first | lia | omega)
    · have := ih (fun d hd => h d (List.mem_cons_of_mem _ hd)) e
      split <;> (first | lia | omega)
theorem rt_pos {cl : List C3} {i j s : Int} (h : 0 < rt cl i j s) : ∃ c ∈ cl, isR i j s c = true := by
  induction cl with
  | nil => simp [rt] at h
  | cons d cl ih =>
    by_cases hd : isR i j s d = true
    · exact ⟨d, List.mem_cons_self, hd⟩
    · rw [rt_cons, if_neg hd] at h
      obtain ⟨c, hc, hr⟩ := ih (by (first | lia | omega))
      exact ⟨c, List.mem_cons_of_mem _ hc, hr⟩
theorem range6 : List.range 6 = [0, 1, 2, 3, 4, 5] := rfl
theorem one_sort (k : Int) : ((List.range 6).filter fun s : Nat => decide (k = (s : Int))).length ≤ 1 := by
  rw [range6]
  by_cases h0 : k = 0
  · subst h0; decide
  by_cases h1 : k = 1
  · subst h1; decide
  by_cases h2 : k = 2
  · subst h2; decide
  by_cases h3 : k = 3
  · subst h3; decide
  by_cases h4 : k = 4
  · subst h4; decide
  by_cases h5 : k = 5
  · subst h5; decide
  simp [List.filter_cons, h0, h1, h2, h3, h4, h5]
theorem filter_or_len {α : Type} (p q : α → Bool) (l : List α) : (l.filter fun x => p x || q x).length ≤ (l.filter p).length + (l.filter q).length := by
  induction l with
  | nil => simp
  | cons x l ih =>
    rw [List.filter_cons, List.filter_cons, List.filter_cons]
    cases p x <;> cases q x <;> simp <;> (first | lia | omega)
theorem sorts_len (i j : Int) : ∀ cl : List C3, ((List.range 6).filter fun s : Nat => cl.any (isR i j (s : Int))).length ≤ (cl.filter (isIJ i j)).length
  | [] => by simp
  | c :: cl => by
    have ih := sorts_len i j cl
    have e : ((List.range 6).filter fun s : Nat => (c :: cl).any (isR i j (s : Int))) = (List.range 6).filter fun s : Nat => isR i j (s : Int) c || cl.any (isR i j (s : Int)) := by
      congr 1
    rw [e]
    refine Nat.le_trans (filter_or_len _ _ _) ?_
    rw [List.filter_cons]
    by_cases h : isIJ i j c = true
    · rw [if_pos h, List.length_cons]
      have e2 : ((List.range 6).filter fun s : Nat => isR i j (s : Int) c) = (List.range 6).filter fun s : Nat => decide (c.2.1 = (s : Int)) := by
        congr 1; funext s
        show (isIJ i j c && decide (c.2.1 = (s : Int))) = _
        rw [h, Bool.true_and]
      rw [e2]
      have := one_sort c.2.1
      (first | lia | omega)
    · rw [if_neg h]
      have hf : isIJ i j c = false := by simpa using h
      have e2 : ((List.range 6).filter fun s : Nat => isR i j (s : Int) c) = [] := by
        refine List.filter_eq_nil_iff.mpr fun s _ => ?_
        show ¬ (isIJ i j c && decide (c.2.1 = (s : Int))) = true
        rw [hf]; simp
      rw [e2, List.length_nil]
      (first | lia | omega)
theorem posL_eq (cl : List C3) (i j : Int) : posL cl i j = ((List.range 6).filter fun s : Nat => decide (rt cl i j (s : Int) > 0)).map fun s : Nat => (i, (s : Int), rt cl i j (s : Int)) := by
  unfold posL sumsL
  rw [List.filter_map]
  rfl
theorem posL_len (cl : List C3) (i j : Int) : (posL cl i j).length ≤ (cl.filter (isIJ i j)).length := by
  rw [posL_eq, List.length_map]
  refine Nat.le_trans ?_ (sorts_len i j cl)
  have sub : ∀ l : List Nat, (l.filter fun s : Nat => decide (rt cl i j (s : Int) > 0)).length ≤ (l.filter fun s : Nat => cl.any (isR i j (s : Int))).length := fun l => by
    induction l with
    | nil => simp
    | cons s l ih =>
      rw [List.filter_cons, List.filter_cons]
      by_cases h : decide (rt cl i j (s : Int) > 0) = true
      · have h2 : cl.any (isR i j (s : Int)) = true := by
          obtain ⟨c, hc, hr⟩ := rt_pos (of_decide_eq_true h)
          exact List.any_eq_true.mpr ⟨c, hc, hr⟩
        rw [if_pos h, if_pos h2, List.length_cons, List.length_cons]; (first | lia | omega)
      · rw [if_neg h]
        split
        · rw [List.length_cons]; (first | lia | omega)
        · exact ih
  exact sub _
theorem filter_both {α : Type} (p : α → Bool) (l : List α) : (l.filter fun x => !p x).length + (l.filter p).length = l.length := by
  induction l with
  | nil => rfl
  | cons x l ih =>
    rw [List.filter_cons, List.filter_cons]
    cases p x <;> simp <;> (first | lia | omega)
theorem joinL_len (cl : List C3) (i j : Int) : (joinL cl i j).length ≤ cl.length := by
  unfold joinL keptL
  rw [List.length_append]
  have := posL_len cl i j
  have := filter_both (isIJ i j) cl
  (first | lia | omega)
theorem mem_posL {cl : List C3} {i j : Int} {c : C3} (h : c ∈ posL cl i j) : c.1 = i ∧ 0 ≤ c.2.1 ∧ c.2.1 ≤ 5 ∧ c.2.2 = rt cl i j c.2.1 ∧ 0 < c.2.2 := by
  rw [posL_eq] at h
  obtain ⟨s, hs, rfl⟩ := List.mem_map.mp h
  obtain ⟨h1, h2⟩ := List.mem_filter.mp hs
  have : s < 6 := List.mem_range.mp h1
  exact ⟨rfl, by show (0 : Int) ≤ (s : Int); (first | lia | omega), by show (s : Int) ≤ 5; (first | lia | omega), rfl, of_decide_eq_true h2⟩
theorem mem_keptL {cl : List C3} {i j : Int} {c : C3} : c ∈ keptL cl i j ↔ c ∈ cl ∧ i ≠ c.1 ∧ j ≠ c.1 := by
  unfold keptL isIJ
  rw [List.mem_filter]
  simp
theorem has_mem {cl : List C3} {i : Int} : hasH cl i = true ↔ ∃ c ∈ cl, c.1 = i := by
  unfold hasH
  rw [List.any_eq_true]
  constructor
  · rintro ⟨c, hc, e⟩; exact ⟨c, hc, of_decide_eq_true e⟩
  · rintro ⟨c, hc, e⟩; exact ⟨c, hc, decide_eq_true e⟩
theorem joinL_keys {cl : List C3} (G : ClOk cl) (i j : Int) : ((joinL cl i j).map key2).Nodup := by
  unfold joinL
  rw [List.map_append, List.nodup_append]
  refine ⟨((List.filter_sublist (p := fun c => !isIJ i j c) (l := cl)).map key2).nodup (keys_nodup G), ?_, fun x hx y hy e => ?_⟩
  · rw [posL_eq, List.map_map, List.nodup_iff_pairwise_ne, List.pairwise_map]
    have nd : ((List.range 6).filter fun s : Nat => decide (rt cl i j (s : Int) > 0)).Nodup := List.Nodup.sublist List.filter_sublist List.nodup_range
    refine (List.nodup_iff_pairwise_ne.mp nd).imp fun {a b} hab e => hab ?_
    have := (Prod.mk.inj (show ((i, (a : Int)) : Int × Int) = (i, (b : Int)) from e)).2
    (first | lia | omega)
  · obtain ⟨c, hc, rfl⟩ := List.mem_map.mp hx
    obtain ⟨d, hd, rfl⟩ := List.mem_map.mp hy
    have h1 := (mem_keptL.mp hc).2.1
    have h2 := (mem_posL hd).1
    have h3 := (Prod.mk.inj (show ((c.1, c.2.1) : Int × Int) = (d.1, d.2.1) from e)).1
    (first | lia | omega)
theorem joinL_num {cl : List C3} (G : ClOk cl) {i j : Int} (hi : hasH cl i = true) (h20 : ∀ s : Nat, s < 6 → rt cl i j (s : Int) ≤ 20) : ∀ c ∈ joinL cl i j, NumOk c := fun c hc => by
  rcases List.mem_append.mp hc with h | h
  · exact G.num c (mem_keptL.mp h).1
  · obtain ⟨e1, e2, e3, e4, e5⟩ := mem_posL h
    obtain ⟨d, hd, e⟩ := has_mem.mp hi
    have := (G.num d hd).1
    have h6 := h20 c.2.1.toNat (by (first | lia | omega))
    rw [Int.toNat_of_nonneg e2, ← e4] at h6
    exact ⟨by (first | lia | omega), by (first | lia | omega), by (first | lia | omega)⟩
theorem joinL_one {cl : List C3} (G : ClOk cl) {i j : Int} (hi : hasH cl i = true) : ∃ c ∈ joinL cl i j, c.1 = i := by
  obtain ⟨d, hd, e⟩ := has_mem.mp hi
  have hn := G.num d hd
  have hr : isR i j d.2.1 d = true := by unfold isR; simp [e]
  have h1 := rt_mem (fun c hc => (G.num c hc).2.2.1) hd hr
  refine ⟨(i, d.2.1, rt cl i j d.2.1), List.mem_append.mpr (.inr ?_), rfl⟩
  rw [posL_eq]
  refine List.mem_map.mpr ⟨d.2.1.toNat, List.mem_filter.mpr ⟨List.mem_range.mpr (by (first | lia | omega)), ?_⟩, ?_⟩
  · rw [Int.toNat_of_nonneg hn.2.1.1]; exact decide_eq_true (by (first | lia | omega))
  · rw [Int.toNat_of_nonneg hn.2.1.1]
theorem joinL_under {cs : List Int} {cl : List C3} (U : Under cs cl) (i j : Int) : Under cs (joinL cl i j) := fun c hc => by
  rcases List.mem_append.mp hc with h | h
  · exact U c (mem_keptL.mp h).1
  · obtain ⟨e1, e2, e3, e4, e5⟩ := mem_posL h
    rw [e4] at e5
    obtain ⟨d, hd, hr⟩ := rt_pos e5
    unfold isR at hr
    have : d.2.1 = c.2.1 := by
      have := (Bool.and_eq_true_iff.mp hr).2
      exact of_decide_eq_true this
    rw [← this]; exact U d hd
end M05
set_option Elab.async false
set_option linter.all false
set_option maxRecDepth 100000
set_option maxHeartbeats 4000000
namespace M05
open PySem L2 PyProof.Rows Set4
noncomputable abbrev sJoined : Stmt := top 39
noncomputable abbrev sTwo : Stmt := top 30
noncomputable def spTwo : Sp := fun vs H Q _ => ∃ a cl i j, vs = [.ref a, .int i, .int j] ∧ ClT H a cl ∧ cl.length ≤ 12 ∧ hasH cl i = true ∧ hasH cl j = true ∧ i ≠ j ∧ ∀ H', Same H H' → Q .non H'
noncomputable abbrev xFs (m : Int) : List (Str × V) := putF "most" (.int 20) [("many", .int m)]
noncomputable def spJoined (CT : Addr) : Sp := fun vs H Q E => ∃ a i j cl, vs = [.ref a, .int i, .int j] ∧ ClT H a cl ∧ ClOk cl ∧ hasH cl i = true ∧ hasH cl j = true ∧ i ≠ j ∧ (∀ d H' m, Same H H' → 20 < m → H' d = some (xdO d (xFs m)) → E (.ref CT) (some d) H') ∧
  ∀ a' cl' H', Same H H' → ClT H' a' cl' → ClOk cl' → cl'.Perm (joinL cl i j) → Q (.ref a') H'
noncomputable abbrev nJo : List Str := ["claims", "one", "other", "sums", "holder", "sort", "many", "kept"]
theorem sums_get (cl : List C3) (i j : Int) {k : Nat} (hk : k < 6) : (sumsL cl i j)[k]? = some (i, (k : Int), rt cl i j (k : Int)) := by
  unfold sumsL
  rw [List.getElem?_map, List.getElem?_range hk]
  rfl
section
variable {P : Program} {w : World} {K : PySem.W.Frag} {mg : Str → Option Value} {base : Heap}
theorem scJoined : FnScope nJo ["claims", "one", "other"] (defScope sJoined) := ⟨rfl, rfl, rfl, by decide +kernel, rfl, by decide +kernel, by decide +kernel⟩
theorem ndJ1 : (["sort", "claims", "one", "other"] : List Str).Nodup := by decide +kernel
theorem ndJ2 : (["claim", "one", "other"] : List Str).Nodup := by decide +kernel
theorem ndJ3 : (["claim"] : List Str).Nodup := by decide +kernel
theorem scTwo : FnScope ["claims", "one", "other"] ["claims", "one", "other"] (defScope sTwo) := ⟨rfl, rfl, rfl, by decide +kernel, rfl, by decide +kernel, by decide +kernel⟩
theorem ok_two {f g2 : Addr} {fd d2 : FuncData} (F : Fun K "check_two_holders" "check_two_holders" sTwo f fd) (a2 : At P w K mg base 3 "check_holder" g2 d2 ["claims", "holder"] spChkHolder) : FnOk P w K mg base CX0 4 f fd ["claims", "one", "other"] spTwo := by
  refine F.ok scTwo (fun vs H Q E h => ?_) (fun cdv A outer s H vs Q E hr h => ?_)
  · obtain ⟨a, cl, i, j, rfl, _⟩ := h; rfl
  · obtain ⟨a, cl, i, j, rfl, hA, h12, hi, hj, hij, q⟩ := h
    refine ⟨_, pss_cons (ps_expr (pe_call a2.ok hr rfl a2.nm a2.kp a2.bd .nil pass0 (pa_v (pv 0) (pa_v (pv 1) pa_nil)))) <|
      pss_cons (ps_expr (pe_call a2.ok hr rfl a2.nm a2.kp a2.bd .nil pass0 (pa_v (pv 0) (pa_v (pv 2) pa_nil)))) <|
      pss_one (ps_if (pt_cmpR op_eq (pv 1) (pv 2) (nomark _)) pss_never pss_nil), ?_⟩
    refine ⟨_, rfl, _, rfl, a, cl, i, rfl, hA, h12, hi, fun H2 s2 => ?_⟩
    refine ⟨_, rfl, _, rfl, a, cl, j, rfl, hA.ext s2.ext, h12, hj, fun H3 s3 => ?_⟩
    exact ⟨_, rfl, _, rfl, rfl, _, rfl, ite2d (fun z => absurd (V.int.inj z) hij) fun _ => q H3 (s2.trans s3)⟩
theorem ok_joined {f g1 g2 g3 CT fi : Addr} {fd d1 d2 d3 di : FuncData} (F : Fun K "joined" "joined" sJoined f fd) (T : Txt mg) (a1 : At P w K mg base 5 "check_claims" g1 d1 ["claims"] spChkClaims) (a2 : At P w K mg base 4 "check_two_holders" g2 d2 ["claims", "one", "other"] spTwo) (a3 : At P w K mg base 1 "rights_of" g3 d3 ["claims", "holders", "sort"] spRights)
    (mT : mg "TooMany" = some (.ref CT)) (M : ExcI K CT fi) (bI : L2.Binds K di ["self", "many", "most"] []) (oI : FnOk P w K mg base CX0 1 fi di ["self", "many", "most"] (spInit CT)) : FnOk P w K mg base (CXD P w) 6 f fd ["claims", "one", "other"] (spJoined CT) := by
  obtain ⟨t1, mS⟩ := T.sorts
  obtain ⟨t2, mR⟩ := T.rights
  refine F.okD scJoined (fun vs H Q E h => ?_) (fun cdv A outer s H vs Q E hr h => ?_)
  · obtain ⟨a, i, j, cl, rfl, _⟩ := h; rfl
  · obtain ⟨a, i, j, cl, rfl, hA, G, hi, hj, hij, hE, q⟩ := h
    have nd := scJoined.nd
    have hu := hu_of hr
    refine ⟨_, pss_cons (ps_expr (pe_call a1.ok hr rfl a1.nm a1.kp a1.bd .nil pass0 (pa_v (pv 0) pa_nil))) <|
      pss_cons (ps_expr (pe_call a2.ok (hr.mono (by decide)) rfl a2.nm a2.kp a2.bd .nil pass0 (pa_v (pv 0) (pa_v (pv 1) (pa_v (pv 2) pa_nil))))) <|
      pss_cons (ps_setC1 (i := 3) (defScope sJoined).names nJo ["sort"] [("claims", 0), ("one", 1), ("other", 2)] rfl nd rfl rfl (pi_range1 rfl T.range (pa_v (pe_glob (v := .int 6) rfl mS ⟨_, rfl⟩) pa_nil)) rfl rfl rfl (by decide +kernel)
        (fun Z => pg_name (i := 0) ndJ1 rfl (Or.inl rfl)) (fun Z => pts_nil)
        (fun Z => pe_tup (pa_v (pv 2) (pa_v (pv 0) (pa_k (pe_call a3.ok (hr.mono (by decide)) rfl a3.nm a3.kp a3.bd .nil pass0 (pa_v (pv 1) (pa_t (pe_tup (pa_v (pv 2) (pa_v (pv 3) pa_nil))) (pa_v (pv 0) pa_nil)))) pa_nil))))) <|
      pss_cons (ps_for PassesOwn.leaving rfl (pi_list (pv 3)) (pg_tup rfl (pgs_cons (pg_name (i := 4) nd rfl (Or.inl rfl)) (pgs_cons (pg_name (i := 5) nd rfl (Or.inl rfl)) (pgs_cons (pg_name (i := 6) nd rfl (Or.inl rfl)) pgs_nil))))
        (pss_one (ps_if (pt_cmpR op_gt (pv 6) (pe_glob (v := .int 20) rfl mR ⟨_, rfl⟩) (nomark _)) (pss_one (ps_raiseX (E := E) rfl rfl rfl rfl rfl (pe_makeX M oI (hr.mono (by decide)) rfl mT bI pass0 (pa_v (pv 6) (pa_v (pe_glob (v := .int 20) rfl mR ⟨_, rfl⟩) pa_nil)) (by decide)))) pss_nil))) <|
      pss_cons (ps_setC1 (i := 7) (defScope sJoined).names nJo ["claim"] [("one", 1), ("other", 2)] rfl nd rfl rfl (pi_tup (pv 0)) rfl rfl rfl (by decide +kernel)
        (fun Z => pg_name (i := 0) ndJ2 rfl (Or.inl rfl)) (fun Z => pts_one (pt_cmpR (op_notInD 0 hu) (pe_ix ix_tup (pv 0) pe_int (fun _ _ => rfl)) (pe_tup (pa_v (pv 1) (pa_v (pv 2) pa_nil))) rfl)) (fun Z => pv 0)) <|
      pss_one (ps_ret (pe_callTy call_tuple_of rfl T.tuple boot_tuple (pa_k (pe_callB call_sortedT rfl T.sorted boot_sorted (pa_b (pe_op op_cat (pv 7) (pe_comp1 (defScope sJoined).names nJo ["claim"] [] rfl (pi_list (pv 3)) rfl rfl rfl (by decide +kernel)
        (fun Z => pg_name (i := 0) ndJ3 rfl (Or.inl rfl)) (fun Z => pts_one (pt_cmpR op_gt (pe_ix ix_tup (pv 0) pe_int (fun _ _ => rfl)) pe_int (nomark _))) (fun Z => pv 0))) pa_nil)) pa_nil))), ?_⟩
    refine ⟨_, rfl, a, cl, rfl, hA, G, fun H1 s1 => ?_⟩
    refine ⟨_, rfl, _, rfl, _, rfl, a, cl, i, j, rfl, hA.ext s1.ext, G.l12, hi, hj, hij, fun H3 s3 => ?_⟩
    have s13 := s1.trans s3
    have hA3 := hA.ext s13.ext
    obtain ⟨bs, ha, hC⟩ := id hA3
    have hl : bs.length = cl.length := Paired.length hC
    have h12 := G.l12
    refine ⟨6, rfl, by decide, by decide, fun Z l hl0 => ?_⟩
    refine for_range (lo := 0) (n := 6) (fun k σ H' => (∃ o, σ = [o, some (.ref a), some (.int i), some (.int j)]) ∧ Same H3 H' ∧ ∃ ss : List Addr, H' l = some (.lst (ss.map V.ref)) ∧ ClP H' ss ((sumsL cl i j).take k)) ⟨⟨_, rfl⟩, same_upd hl0, [], by rw [upd_same]; rfl, .nil⟩ ?_ ?_
    · rintro k σ H' hk ⟨⟨o, rfl⟩, hs, ss, hl2, hS⟩
      refine body_name ?_
      refine ⟨_, rfl, _, rfl, _, rfl, _, rfl, _, rfl, by show 2 ≤ sizeLine; decide, fun t ht => ?_⟩
      have t1 := same_upd (o := .tup [.int i, .int j]) ht
      refine ⟨_, rfl, a, t, _, cl, i, j, rfl, (hA3.ext hs.ext).ext t1.ext, h12, (fun c hc => (G.num c hc).2.2), upd_same, fun H5 s5 => ?_⟩
      refine ⟨by show 3 ≤ sizeLine; decide, fun u hu' => ?_⟩
      have t2 := same_upd (o := .tup [.int i, .int (0 + (k : Int)), .int (rt cl i j (0 + (k : Int)))]) hu'
      have sA := (t1.trans s5).trans t2
      have hl5 := sA _ _ hl2
      have hss : ss.length = min k 6 := by
        have := Paired.length hS
        rw [this, List.length_take]; unfold sumsL; rw [List.length_map, List.length_range]
      refine ⟨_, hl5, small1000 (by rw [List.length_map]; (first | lia | omega)), ⟨_, rfl⟩, fun b o' e => ?_, ss ++ [u], ?_, ?_⟩
      · rw [upd_ne (ne_of_none e hl0)]; exact sA _ _ (hs _ _ e)
      · rw [upd_same, List.map_append]; rfl
      · rw [List.take_succ, sums_get cl i j hk]
        have up : ∀ b xs, (upd H5 u (.tup [.int i, .int (0 + (k : Int)), .int (rt cl i j (0 + (k : Int)))])) b = some (.tup xs) → (upd (upd H5 u (.tup [.int i, .int (0 + (k : Int)), .int (rt cl i j (0 + (k : Int)))])) l (.lst (ss.map V.ref ++ [.ref u]))) b = some (.tup xs) := fun b xs e => by
          rw [upd_ne (fun z => by rw [z, hl5] at e; cases e)]; exact e
        refine Paired.snoc (Paired.mapP hS fun _ _ e => up _ _ (sA _ _ e)) ?_
        have e0 : (0 + (k : Int)) = (k : Int) := by (first | lia | omega)
        have := up u _ upd_same
        rw [e0] at this ⊢
        exact this
    rintro σ H4 ⟨_, s4, ss, hl4, hS⟩
    have hsl : ss.length = 6 := by
      have := Paired.length hS
      rw [this, List.length_take]; unfold sumsL; rw [List.length_map, List.length_range]; rfl
    rw [List.take_of_length_le (by unfold sumsL; rw [List.length_map, List.length_range]; exact Nat.le_refl _)] at hS
    have s04 := s13.trans s4
    have ha4 := s4 _ _ ha
    have hC4 := hC.ext s4.ext
    refine ⟨_, rfl, l, rfl, ⟨_, SqL.of hl4⟩, ?_⟩
    refine for_list (K := K) (a := l) (xs := ss.map V.ref) (fun k σ H' => (∃ o4 o5 o6 o7, σ = [some (.ref a), some (.int i), some (.int j), some (.ref l), o4, o5, o6, o7]) ∧ H' = H4 ∧ ∀ r : Nat, r < k → rt cl i j (r : Int) ≤ 20)
      ⟨⟨_, _, _, _, rfl⟩, rfl, fun r hr => by (first | lia | omega)⟩ (fun k σ H' _ h => by rw [h.2.1]; exact SqL.of hl4) ?_ ?_
    · rintro k x σ H' hx ⟨⟨o4, o5, o6, o7, rfl⟩, rfl, h20⟩
      rw [List.getElem?_map] at hx
      cases hb : ss[k]? with
      | none => rw [hb] at hx; cases hx
      | some u =>
        rw [hb] at hx; cases hx
        obtain ⟨c, hc, he⟩ := hS.get hb
        have hk : k < 6 := by
          have := (List.getElem?_eq_some_iff.mp hb).1
          (first | lia | omega)
        rw [sums_get cl i j hk] at hc
        obtain rfl := Option.some.inj hc
        refine ⟨u, _, rfl, SqT.of he, rfl, _, _, rfl, _, _, rfl, _, _, rfl, rfl, ?_⟩
        refine ⟨_, rfl, _, _, rfl, rfl, _, rfl, ite2d (fun hgt => ?_) fun hle => ?_⟩
        · refine ⟨_, rfl, fun x tt hx hn => ⟨x, tt, _, _, rfl, upd_same, fun d hd hne => ⟨rfl, x, CT, fi, tt, some d, rfl, hn, M, by rw [upd_ne hne.symm, upd_same], ?_⟩⟩⟩
          rw [upd_ne hne] at hd
          refine hE d _ _ (fun b o e => ?_) hgt (by rw [dropH_ne hne, upd_same])
          have e0 := s04 _ _ e
          have b1 : b ≠ x := ne_of_none e0 hx
          have b2 : b ≠ d := ne_of_none e0 hd
          rw [dropH_ne b1, upd_ne b2, upd_ne b1, upd_ne b2, upd_ne b1]
          exact e0
        · refine ⟨⟨_, _, _, _, rfl⟩, rfl, fun r hr => ?_⟩
          by_cases z : r = k
          · subst z
            have h9 : ¬ (20 : Int) < rt cl i j (r : Int) := hle
            (first | lia | omega)
          · exact h20 r (by (first | lia | omega))
    rintro σ H' ⟨⟨o4, o5, o6, o7, rfl⟩, rfl, h20⟩
    rw [List.length_map, hsl] at h20
    refine ⟨_, rfl, a, rfl, ⟨_, SqT.of ha4⟩, fun Z2 l2 hl2 => ?_⟩
    refine comp_clN (fun c => !isIJ i j c) wk_tup (fun H' hs => SqT.of (hs _ _ ha4)) hC4 hl2 (by (first | lia | omega)) (fun b y Hk Q' he hs hq => ?_) fun σ H5 bs' s5 hk5 hC5 => ?_
    · refine ⟨_, rfl, b, _, 0, .int y.1, rfl, rfl, SqT.of he, atI_nat (j := 0) rfl, _, rfl, _, rfl, by show 2 ≤ sizeLine; decide, fun t ht => ?_⟩
      refine ⟨t, [.int i, .int j], [decide (i = y.1), decide (j = y.1)], rfl, .inl upd_same, ⟨EqD.int _ _ _, EqD.int _ _ _, trivial⟩, _, rfl, ?_⟩
      have ed : (!([decide (i = y.1), decide (j = y.1)].any id)) = !isIJ i j y := by unfold isIJ; simp
      rw [ed]
      exact hq _ (same_upd ht)
    have hl5 := s5 _ _ hl4
    have hS5 := hS.ext s5.ext
    refine ⟨_, rfl, _, rfl, l, rfl, ⟨_, SqL.of hl5⟩, fun Z3 l3 hl3 => ?_⟩
    refine comp_clN (fun c => decide (c.2.2 > 0)) wk_list (fun H' hs => SqL.of (hs _ _ hl5)) hS5 hl3 (by (first | lia | omega)) (fun b y Hk Q' he hs hq => ?_) fun σ H6 bp s6 hp6 hC6 => ?_
    · exact ⟨_, rfl, b, _, 2, .int y.2.2, rfl, rfl, SqT.of he, atI_nat (j := 2) rfl, _, _, rfl, rfl, _, rfl, hq _ (Same.refl _)⟩
    have hk6 := s6 _ _ hk5
    have hC56 := ClP.ext hC5 s6.ext
    have lk : bs'.length = (keptL cl i j).length := Paired.length hC5
    have lp : bp.length = (posL cl i j).length := Paired.length hC6
    have lj := joinL_len cl i j
    unfold joinL at lj
    rw [List.length_append] at lj
    refine ⟨l2, l3, _, _, rfl, rfl, hk6, hp6, by rw [List.length_map, List.length_map, sizeLine_eq]; (first | lia | omega), fun l7 hl7 => ?_⟩
    have s7 := same_upd (o := .lst (bs'.map V.ref ++ bp.map V.ref)) hl7
    obtain ⟨z1, x1, x2, x3⟩ := clP_zs (ClP.ext hC56 s7.ext)
    obtain ⟨z2, y1, y2, y3⟩ := clP_zs (ClP.ext hC6 s7.ext)
    have hzr : (z1 ++ z2).map (·.2) = (joinL cl i j).map row := by unfold joinL; rw [List.map_append, x2, y2, List.map_append]; rfl
    have hzl : (z1 ++ z2).length = (joinL cl i j).length := by
      have := congrArg List.length hzr
      rwa [List.length_map, List.length_map] at this
    have lj2 := joinL_len cl i j
    refine ⟨l7, z1 ++ z2, rfl, SqL.of (by rw [upd_same, List.map_append, ← x1, ← y1, List.map_map, List.map_map]; rfl), fun z hz => ?_, by (first | lia | omega), fun l8 zs' hl8 hs2 => ?_⟩
    · rcases List.mem_append.mp hz with y | y
      · exact x3 z y
      · exact y3 z y
    obtain ⟨c1, hc1, _⟩ := joinL_one G hi (j := j)
    obtain ⟨gO, gP, gR⟩ := clOk_of hzr hs2 (List.length_pos_of_mem hc1) (by (first | lia | omega)) (joinL_num G hi h20) (joinL_keys G i j)
    have s8 := same_upd (o := .lst (zs'.map fun z => V.ref z.1)) hl8
    refine ⟨l8, _, rfl, .inl ⟨SqL.of upd_same, fun a' ha' => ?_⟩⟩
    have s9 := same_upd (o := .tup (zs'.map fun z => V.ref z.1)) ha'
    refine q a' _ _ (((((s04.trans s5).trans s6).trans s7).trans s8).trans s9) (clT_of upd_same fun z hz => ?_) gO gP
    have hm := hs2.1.mem_iff.mp hz
    rw [← gR z hz]
    rcases List.mem_append.mp hm with y | y
    · exact s9 _ _ (s8 _ _ (x3 z y).1)
    · exact s9 _ _ (s8 _ _ (y3 z y).1)
end
end M05
set_option Elab.async false
set_option linter.all false
set_option maxRecDepth 100000
set_option maxHeartbeats 4000000
namespace M05
open PySem L2 PyProof.Rows Set4
theorem fr_eq {x T : Int} (hx : 0 ≤ x) (hT : 0 < T) : frTop x T * T = x * frBot x T ∧ 0 < frBot x T ∧ 0 ≤ frTop x T ∧ frTop x T ≤ x ∧ frBot x T ≤ T := by
  obtain ⟨a, rfl⟩ := Int.eq_ofNat_of_zero_le hx
  obtain ⟨b, rfl⟩ := Int.eq_ofNat_of_zero_le (Int.le_of_lt hT)
  have hb : 0 < b := by (first | lia | omega)
  unfold frTop frBot
  rw [Int.toNat_natCast, Int.toNat_natCast, ← Int.natCast_ediv, ← Int.natCast_ediv]
  have hg : 0 < Nat.gcd a b := Nat.gcd_pos_of_pos_right _ hb
  have d1 := Nat.gcd_dvd_left a b
  have d2 := Nat.gcd_dvd_right a b
  refine ⟨?_, ?_, Int.natCast_nonneg _, ?_, ?_⟩
  · rw [← Int.natCast_mul, ← Int.natCast_mul]
    congr 1
    rw [Nat.div_mul_right_comm d1, Nat.mul_div_assoc _ d2]
  · have : 0 < b / Nat.gcd a b := Nat.div_pos (Nat.le_of_dvd hb d2) hg
    (first | lia | omega)
  · have := Nat.div_le_self a (Nat.gcd a b); (first | lia | omega)
  · have := Nat.div_le_self b (Nat.gcd a b); (first | lia | omega)
theorem fr_scale {x T k : Int} (hx : 0 ≤ x) (hT : 0 < T) (hk : 0 < k) : frTop (x * k) (T * k) = frTop x T ∧ frBot (x * k) (T * k) = frBot x T := by
  obtain ⟨a, rfl⟩ := Int.eq_ofNat_of_zero_le hx
  obtain ⟨b, rfl⟩ := Int.eq_ofNat_of_zero_le (Int.le_of_lt hT)
  obtain ⟨c, rfl⟩ := Int.eq_ofNat_of_zero_le (Int.le_of_lt hk)
  have hc : 0 < c := by (first | lia | omega)
  unfold frTop frBot
  rw [← Int.natCast_mul, ← Int.natCast_mul, Int.toNat_natCast, Int.toNat_natCast, Int.toNat_natCast, Int.toNat_natCast, Nat.gcd_mul_right, ← Int.natCast_ediv, ← Int.natCast_ediv, ← Int.natCast_ediv, ← Int.natCast_ediv,
    Nat.mul_div_mul_right _ _ hc, Nat.mul_div_mul_right _ _ hc]
  exact ⟨rfl, rfl⟩
noncomputable def sumF (fs : List (Int × Int)) (z : Int × Int) : Int × Int := fs.foldl (fun z f => (z.1 * f.2 + f.1 * z.2, z.2 * f.2)) z
theorem sumF_inv {T : Int} (hT : 0 < T) : ∀ (xs : List Int) (z : Int × Int) (S : Int), (∀ x ∈ xs, 0 ≤ x) → z.1 * T = z.2 * S → 0 < z.2 →
    (sumF (xs.map fun x => (frTop x T, frBot x T)) z).1 * T = (sumF (xs.map fun x => (frTop x T, frBot x T)) z).2 * (S + xs.sum) ∧ 0 < (sumF (xs.map fun x => (frTop x T, frBot x T)) z).2
  | [], z, S, _, h, h0 => by
    show z.1 * T = z.2 * (S + 0) ∧ 0 < z.2
    rw [Int.add_zero]; exact ⟨h, h0⟩
  | x :: xs, z, S, hx, h, h0 => by
    obtain ⟨f1, f2, f3, _⟩ := fr_eq (hx x List.mem_cons_self) hT
    have e := sumF_inv hT xs (z.1 * frBot x T + frTop x T * z.2, z.2 * frBot x T) (S + x) (fun y hy => hx y (List.mem_cons_of_mem _ hy)) ?_ (Int.mul_pos h0 f2)
    · rw [List.sum_cons, ← Int.add_assoc]; exact e
    · show (z.1 * frBot x T + frTop x T * z.2) * T = z.2 * frBot x T * (S + x)
      rw [Int.add_mul, Int.mul_right_comm, h, Int.mul_right_comm (frTop x T), f1, Int.mul_add, Int.mul_right_comm z.2 S, Int.mul_comm x, Int.mul_assoc, Int.mul_assoc, Int.mul_assoc, Int.mul_comm x z.2]
      congr 1
      rw [← Int.mul_assoc, Int.mul_comm (frBot x T) z.2, Int.mul_assoc]
theorem sum_one {T : Int} (hT : 0 < T) {xs : List Int} (hx : ∀ x ∈ xs, 0 ≤ x) (hs : xs.sum = T) : (sumF (xs.map fun x => (frTop x T, frBot x T)) (0, 1)).1 * 1 = 1 * (sumF (xs.map fun x => (frTop x T, frBot x T)) (0, 1)).2 := by
  obtain ⟨e, _⟩ := sumF_inv hT xs (0, 1) 0 hx (by simp) (by decide)
  rw [hs, Int.zero_add] at e
  have := Int.eq_of_mul_eq_mul_right (by (first | lia | omega)) e
  (first | lia | omega)
theorem sum_like {T x y : Int} (hT : 0 < T) (hx : 0 ≤ x) (hy : 0 ≤ y) : frTop (x + y) T * (sumF ([x, y].map fun x => (frTop x T, frBot x T)) (0, 1)).2 = (sumF ([x, y].map fun x => (frTop x T, frBot x T)) (0, 1)).1 * frBot (x + y) T := by
  obtain ⟨e, _⟩ := sumF_inv hT [x, y] (0, 1) 0 (fun z hz => by
    rcases List.mem_cons.mp hz with rfl | hz
    · exact hx
    · rw [List.mem_singleton.mp hz]; exact hy) (by simp) (by decide)
  have es : (0 : Int) + [x, y].sum = x + y := by simp
  rw [es] at e
  obtain ⟨f1, _⟩ := fr_eq (show 0 ≤ x + y by (first | lia | omega)) hT
  generalize (sumF ([x, y].map fun x => (frTop x T, frBot x T)) (0, 1)) = z at e ⊢
  have k : (frTop (x + y) T * z.2) * T = (z.1 * frBot (x + y) T) * T := by
    rw [Int.mul_right_comm, f1, Int.mul_right_comm z.1, e, Int.mul_comm z.2, Int.mul_assoc, Int.mul_assoc, Int.mul_comm z.2]
  exact Int.eq_of_mul_eq_mul_right (by (first | lia | omega)) k
theorem cnt_append (cs : List Int) (a b : List C3) : cntAll cs (a ++ b) = cntAll cs a + cntAll cs b := by unfold cntAll; rw [List.map_append, List.sum_append]
theorem cnt_perm (cs : List Int) {a b : List C3} (h : a.Perm b) : cntAll cs a = cntAll cs b := by
  induction h with
  | nil => rfl
  | cons x _ ih => show cntAll cs (x :: _) = cntAll cs (x :: _); unfold cntAll at ih ⊢; rw [List.map_cons, List.map_cons, List.sum_cons, List.sum_cons, ih]
  | swap x y l => unfold cntAll; simp only [List.map_cons, List.sum_cons]; (first | lia | omega)
  | trans _ _ i1 i2 => exact i1.trans i2
theorem cntH_perm (cs : List Int) {a b : List C3} (h : a.Perm b) (i : Int) : cntH cs a i = cntH cs b i := cnt_perm cs (h.filter _)
theorem hasH_perm {a b : List C3} (h : a.Perm b) (i : Int) : hasH a i = hasH b i := by
  rw [Bool.eq_iff_iff, has_mem, has_mem]
  constructor
  · rintro ⟨c, hc, e⟩; exact ⟨c, h.mem_iff.mp hc, e⟩
  · rintro ⟨c, hc, e⟩; exact ⟨c, h.mem_iff.mpr hc, e⟩
theorem cnt_cons (cs : List Int) (c : C3) (cl : List C3) : cntAll cs (c :: cl) = cw cs c + cntAll cs cl := by unfold cntAll; rw [List.map_cons, List.sum_cons]
theorem cntH_cons (cs : List Int) (c : C3) (cl : List C3) (i : Int) : cntH cs (c :: cl) i = (if c.1 = i then cw cs c else 0) + cntH cs cl i := by
  unfold cntH ofH
  rw [List.filter_cons]
  by_cases h : c.1 = i
  · rw [if_pos (decide_eq_true h), if_pos h, cnt_cons]
  · rw [if_neg (by simp [h]), if_neg h]; (first | lia | omega)
theorem cntH_none {cs : List Int} {cl : List C3} {i : Int} (h : hasH cl i = false) : cntH cs cl i = 0 := by
  have : ofH cl i = [] := by
    unfold ofH
    refine List.filter_eq_nil_iff.mpr fun c hc e => ?_
    have := has_mem.mpr ⟨c, hc, of_decide_eq_true e⟩
    rw [h] at this; cases this
  unfold cntH; rw [this]; rfl
theorem four_sum (cs : List Int) : ∀ cl : List C3, (∀ c ∈ cl, 0 ≤ c.1 ∧ c.1 ≤ 3) → cntH cs cl 0 + cntH cs cl 1 + cntH cs cl 2 + cntH cs cl 3 = cntAll cs cl
  | [], _ => rfl
  | c :: cl, h => by
    have ih := four_sum cs cl fun d hd => h d (List.mem_cons_of_mem _ hd)
    have h0 := h c List.mem_cons_self
    rw [cntH_cons, cntH_cons, cntH_cons, cntH_cons, cnt_cons]
    have : c.1 = 0 ∨ c.1 = 1 ∨ c.1 = 2 ∨ c.1 = 3 := by (first | lia | omega)
    rcases this with e | e | e | e <;> simp only [e] <;> simp <;> (first | lia | omega)
theorem cond_sum (f : Nat → Int) (b : Bool) (n : Nat) (h : b = false → f n = 0) : ((cond b [n] []).map f).sum = f n := by
  cases b
  · rw [h rfl]; rfl
  · rw [cond_true, List.map_cons, List.map_nil, List.sum_cons, List.sum_nil, Int.add_zero]
theorem L_sum (f : Nat → Int) (b0 b1 b2 b3 : Bool) (h0 : b0 = false → f 0 = 0) (h1 : b1 = false → f 1 = 0) (h2 : b2 = false → f 2 = 0) (h3 : b3 = false → f 3 = 0) : ((L b0 b1 b2 b3).map f).sum = f 0 + f 1 + f 2 + f 3 := by
  unfold L
  rw [List.map_append, List.map_append, List.map_append, List.sum_append, List.sum_append, List.sum_append, cond_sum f b0 0 h0, cond_sum f b1 1 h1, cond_sum f b2 2 h2, cond_sum f b3 3 h3, Int.add_assoc, Int.add_assoc]
theorem hold_sum (cs : List Int) {cl : List C3} (h : ∀ c ∈ cl, 0 ≤ c.1 ∧ c.1 ≤ 3) : ((mem4 (holdS cl)).map fun k : Nat => cntH cs cl (k : Int)).sum = cntAll cs cl := by
  rw [← four_sum cs cl h]
  unfold mem4
  exact L_sum (fun k : Nat => cntH cs cl (k : Int)) _ _ _ _ cntH_none cntH_none cntH_none cntH_none
theorem getD_scale (cs : List Int) (k : Int) (n : Nat) : (cs.map (· * k)).getD n 0 = cs.getD n 0 * k := by
  rw [List.getD_eq_getElem?_getD, List.getD_eq_getElem?_getD, List.getElem?_map]
  cases cs[n]? <;> simp
theorem cnt_scale (cs : List Int) (k : Int) : ∀ cl : List C3, cntAll (cs.map (· * k)) cl = cntAll cs cl * k
  | [] => by simp [cntAll]
  | c :: cl => by
    rw [cnt_cons, cnt_cons, cnt_scale cs k cl, Int.add_mul]
    congr 1
    unfold cw
    rw [getD_scale, Int.mul_right_comm]
noncomputable def manyH (cl : List C3) (i : Int) : Int := ((ofH cl i).map (·.2.2)).sum
theorem many_le {cs : List Int} (Gc : CuOk cs) (i : Int) : ∀ cl : List C3, (∀ c ∈ cl, 0 ≤ c.2.1 ∧ c.2.1 < cs.length ∧ 1 ≤ c.2.2 ∧ c.2.2 ≤ 20) → manyH cl i ≤ cntH cs cl i
  | [], _ => by simp [manyH, ofH, cntH, cntAll]
  | c :: cl, h => by
    have ih := many_le Gc i cl fun d hd => h d (List.mem_cons_of_mem _ hd)
    have h0 := h c List.mem_cons_self
    have hw := cw_small Gc h0
    rw [cntH_cons]
    have hm : manyH (c :: cl) i = (if c.1 = i then c.2.2 else 0) + manyH cl i := by
      unfold manyH ofH
      rw [List.filter_cons]
      by_cases e : c.1 = i
      · rw [if_pos (decide_eq_true e), if_pos e, List.map_cons, List.sum_cons]
      · rw [if_neg (by simp [e]), if_neg e]; (first | lia | omega)
    rw [hm]
    have hc : c.2.2 ≤ cw cs c := by
      unfold cw
      have := Int.mul_le_mul_of_nonneg_right hw.1 (show 0 ≤ c.2.2 by (first | lia | omega))
      (first | lia | omega)
    split <;> (first | lia | omega)
end M05
set_option Elab.async false
set_option linter.all false
set_option maxRecDepth 100000
set_option maxHeartbeats 4000000
namespace M05
open PySem L2 PyProof.Rows Set4
noncomputable def wAll (cs : List Int) (cl : List C3) (i j : Int) : Int := ((List.range 6).map fun s : Nat => cs.getD s 0 * rt cl i j (s : Int)).sum
theorem wAll_eq (cs : List Int) (cl : List C3) (i j : Int) : wAll cs cl i j = cs.getD 0 0 * rt cl i j 0 + cs.getD 1 0 * rt cl i j 1 + cs.getD 2 0 * rt cl i j 2 + cs.getD 3 0 * rt cl i j 3 + cs.getD 4 0 * rt cl i j 4 + cs.getD 5 0 * rt cl i j 5 := by
  unfold wAll
  rw [range6]
  simp only [List.map_cons, List.map_nil, List.sum_cons, List.sum_nil]
  show _ * rt cl i j (0 : Int) + (_ * rt cl i j (1 : Int) + (_ * rt cl i j (2 : Int) + (_ * rt cl i j (3 : Int) + (_ * rt cl i j (4 : Int) + (_ * rt cl i j (5 : Int) + 0))))) = _
  (first | lia | omega)
theorem pick6 (f : Nat → Int) {k m : Int} (h : 0 ≤ k ∧ k ≤ 5) : f 0 * (if k = 0 then m else 0) + f 1 * (if k = 1 then m else 0) + f 2 * (if k = 2 then m else 0) + f 3 * (if k = 3 then m else 0) + f 4 * (if k = 4 then m else 0) + f 5 * (if k = 5 then m else 0) = f k.toNat * m := by
  have hc : k = 0 ∨ k = 1 ∨ k = 2 ∨ k = 3 ∨ k = 4 ∨ k = 5 := by (first | lia | omega)
  rcases hc with rfl | rfl | rfl | rfl | rfl | rfl <;> simp
theorem wAll_cnt (cs : List Int) (i j : Int) : ∀ cl : List C3, (∀ c ∈ cl, 0 ≤ c.2.1 ∧ c.2.1 ≤ 5) → wAll cs cl i j = cntAll cs (cl.filter (isIJ i j))
  | [], _ => by rw [wAll_eq]; simp [rt, cntAll]
  | c :: cl, h => by
    have ih := wAll_cnt cs i j cl fun d hd => h d (List.mem_cons_of_mem _ hd)
    have h0 := h c List.mem_cons_self
    rw [List.filter_cons]
    by_cases hi : isIJ i j c = true
    · rw [if_pos hi, cnt_cons, ← ih, wAll_eq, wAll_eq]
      have e : ∀ s : Int, isR i j s c = decide (c.2.1 = s) := fun s => by
        show (isIJ i j c && decide (c.2.1 = s)) = _
        rw [hi, Bool.true_and]
      simp only [rt_cons, e, decide_eq_true_eq, Int.mul_add]
      have p := pick6 (fun s => cs.getD s 0) (m := c.2.2) h0
      unfold cw
      (first | lia | omega)
    · have hf : isIJ i j c = false := by simpa using hi
      rw [if_neg hi, ← ih, wAll_eq, wAll_eq]
      have e : ∀ s : Int, isR i j s c = false := fun s => by
        show (isIJ i j c && decide (c.2.1 = s)) = _
        rw [hf, Bool.false_and]
      simp only [rt_cons, e, Bool.false_eq_true, if_false, Int.zero_add]
theorem posL_cnt {cs : List Int} {cl : List C3} (h : ∀ c ∈ cl, 1 ≤ c.2.2) (i j : Int) : cntAll cs (posL cl i j) = wAll cs cl i j := by
  rw [posL_eq]
  unfold wAll cntAll
  rw [List.map_map]
  have go : ∀ l : List Nat, ((l.filter fun s : Nat => decide (rt cl i j (s : Int) > 0)).map (cw cs ∘ fun s : Nat => (i, (s : Int), rt cl i j (s : Int)))).sum = (l.map fun s : Nat => cs.getD s 0 * rt cl i j (s : Int)).sum := fun l => by
    induction l with
    | nil => rfl
    | cons s l ih =>
      rw [List.filter_cons, List.map_cons, List.sum_cons, ← ih]
      by_cases hp : rt cl i j (s : Int) > 0
      · rw [if_pos (decide_eq_true hp), List.map_cons, List.sum_cons]
        rfl
      · rw [if_neg (by simpa using hp)]
        have := rt_nonneg h i j (s : Int)
        have e : rt cl i j (s : Int) = 0 := by (first | lia | omega)
        rw [e]; (first | lia | omega)
  exact go _
theorem cnt_split (cs : List Int) (p : C3 → Bool) : ∀ cl : List C3, cntAll cs (cl.filter fun c => !p c) + cntAll cs (cl.filter p) = cntAll cs cl
  | [] => rfl
  | c :: cl => by
    have ih := cnt_split cs p cl
    rw [List.filter_cons, List.filter_cons, cnt_cons]
    cases p c <;> simp only [Bool.not_true, Bool.not_false, if_true, if_false, Bool.false_eq_true, cnt_cons] <;> (first | lia | omega)
theorem cntIJ (cs : List Int) {i j : Int} (hij : i ≠ j) : ∀ cl : List C3, cntAll cs (cl.filter (isIJ i j)) = cntH cs cl i + cntH cs cl j
  | [] => rfl
  | c :: cl => by
    have ih := cntIJ cs hij cl
    rw [cntH_cons, cntH_cons, List.filter_cons]
    unfold isIJ at ih ⊢
    by_cases h1 : c.1 = i
    · have h2 : c.1 ≠ j := fun z => hij (h1.symm.trans z)
      rw [if_pos (by simp [h1]), if_pos h1, if_neg h2, cnt_cons]; (first | lia | omega)
    · by_cases h2 : c.1 = j
      · rw [if_pos (by simp [h2]), if_neg h1, if_pos h2, cnt_cons]; (first | lia | omega)
      · rw [if_neg (by simp [Ne.symm h1, Ne.symm h2]), if_neg h1, if_neg h2]; (first | lia | omega)
theorem join_all {cs : List Int} {cl : List C3} (G : ClOk cl) (i j : Int) : cntAll cs (joinL cl i j) = cntAll cs cl := by
  unfold joinL keptL
  rw [cnt_append, posL_cnt (fun c hc => (G.num c hc).2.2.1), wAll_cnt cs i j cl fun c hc => (G.num c hc).2.1]
  exact cnt_split cs (isIJ i j) cl
theorem cntH_append (cs : List Int) (a b : List C3) (h : Int) : cntH cs (a ++ b) h = cntH cs a h + cntH cs b h := by unfold cntH ofH; rw [List.filter_append, cnt_append]
theorem cntH_full {cs : List Int} {i : Int} : ∀ {cl : List C3}, (∀ c ∈ cl, c.1 = i) → cntH cs cl i = cntAll cs cl := fun {cl} h => by
  unfold cntH ofH
  rw [List.filter_eq_self.mpr fun c hc => decide_eq_true (h c hc)]
theorem join_one {cs : List Int} {cl : List C3} (G : ClOk cl) {i j : Int} (hij : i ≠ j) : cntH cs (joinL cl i j) i = cntH cs cl i + cntH cs cl j := by
  unfold joinL
  rw [cntH_append, cntH_full (cl := posL cl i j) fun c hc => (mem_posL hc).1, posL_cnt (fun c hc => (G.num c hc).2.2.1), wAll_cnt cs i j cl (fun c hc => (G.num c hc).2.1), cntIJ cs hij]
  have : hasH (keptL cl i j) i = false := by
    rw [Bool.eq_false_iff]
    intro z
    obtain ⟨c, hc, e⟩ := has_mem.mp z
    exact (mem_keptL.mp hc).2.1 e.symm
  rw [cntH_none this]; (first | lia | omega)
theorem join_rest {cs : List Int} {cl : List C3} {i j h : Int} (hi : h ≠ i) (hj : h ≠ j) : cntH cs (joinL cl i j) h = cntH cs cl h := by
  unfold joinL
  have h1 : hasH (posL cl i j) h = false := by
    rw [Bool.eq_false_iff]
    intro z
    obtain ⟨c, hc, e⟩ := has_mem.mp z
    exact hi (e.symm.trans (mem_posL hc).1)
  rw [cntH_append, cntH_none h1, Int.add_zero]
  unfold cntH ofH keptL
  rw [List.filter_filter]
  congr 2
  funext c
  by_cases e : c.1 = h
  · unfold isIJ; simp [e, Ne.symm hi, Ne.symm hj]
  · simp [e]
theorem join_has {cl : List C3} {i j h : Int} (hi : h ≠ i) (hj : h ≠ j) (hh : hasH cl h = true) : hasH (joinL cl i j) h = true := by
  obtain ⟨c, hc, e⟩ := has_mem.mp hh
  exact has_mem.mpr ⟨c, List.mem_append.mpr (.inl (mem_keptL.mpr ⟨hc, fun z => hi (e.symm.trans z.symm), fun z => hj (e.symm.trans z.symm)⟩)), e⟩
theorem join_gone {cl : List C3} {i j : Int} (hij : i ≠ j) : hasH (joinL cl i j) j = false := by
  rw [Bool.eq_false_iff]
  intro z
  obtain ⟨c, hc, e⟩ := has_mem.mp z
  rcases List.mem_append.mp hc with h | h
  · exact (mem_keptL.mp h).2.2 e.symm
  · exact hij ((mem_posL h).1.symm.trans e)
theorem lt2_asymm {a b : Int × Int} (h1 : lt2 a b = true) (h2 : lt2 b a = true) : False := by
  obtain ⟨a1, a2⟩ := a
  obtain ⟨b1, b2⟩ := b
  unfold lt2 at h1 h2
  dsimp only at h1 h2
  rw [HT.lexLt_cons, HT.lexLt_cons] at h1 h2
  by_cases e1 : a1 = b1
  · subst e1
    rw [if_pos rfl] at h1 h2
    by_cases e2 : a2 = b2
    · subst e2
      rw [if_pos rfl] at h1
      cases h1
    · rw [if_neg e2, decide_eq_true_eq] at h1
      rw [if_neg (Ne.symm e2), decide_eq_true_eq] at h2
      (first | lia | omega)
  · rw [if_neg e1, decide_eq_true_eq] at h1
    rw [if_neg (Ne.symm e1), decide_eq_true_eq] at h2
    (first | lia | omega)
theorem one_order : ∀ {a b : List C3}, a.Perm b → (a.Pairwise fun x y => lt2 (key2 x) (key2 y) = true) → (b.Pairwise fun x y => lt2 (key2 x) (key2 y) = true) → a = b
  | [], b, h, _, _ => (List.nil_perm.mp h).symm
  | x :: a, [], h, _, _ => absurd (List.perm_nil.mp h) (by simp)
  | x :: a, y :: b, h, h1, h2 => by
    have hx : x = y := by
      by_cases e : x = y
      · exact e
      exfalso
      have m1 : x ∈ y :: b := h.mem_iff.mp List.mem_cons_self
      have m2 : y ∈ x :: a := h.mem_iff.mpr List.mem_cons_self
      have n1 : x ∈ b := (List.mem_cons.mp m1).resolve_left e
      have n2 : y ∈ a := (List.mem_cons.mp m2).resolve_left (Ne.symm e)
      exact lt2_asymm ((List.pairwise_cons.mp h1).1 y n2) ((List.pairwise_cons.mp h2).1 x n1)
    subst hx
    rw [one_order (List.Perm.cons_inv h) (List.pairwise_cons.mp h1).2 (List.pairwise_cons.mp h2).2]
theorem up_of {cl : List C3} (G : ClOk cl) : cl.Pairwise fun x y => lt2 (key2 x) (key2 y) = true := List.pairwise_map.mp G.up
theorem laid_denied {cl cl' : List C3} {c : C3} (G : ClOk cl) (G' : ClOk cl') (hp : cl'.Perm (cl ++ [c])) (hn : c ∉ cl) : cl'.filter (fun x => decide (x ≠ c)) = cl := by
  refine one_order ?_ ((up_of G').filter _) (up_of G)
  have := hp.filter fun x => decide (x ≠ c)
  refine this.trans (List.Perm.of_eq ?_)
  have e1 : cl.filter (fun x => decide (x ≠ c)) = cl := List.filter_eq_self.mpr fun x hx => by
    have : x ≠ c := fun e => hn (by rw [← e]; exact hx)
    simp [this]
  rw [List.filter_append, e1]
  simp
end M05
set_option Elab.async false
set_option linter.all false
set_option maxRecDepth 100000
set_option maxHeartbeats 4000000
namespace M05
open PySem L2 PyProof.Rows Set4
noncomputable abbrev sSum : Stmt := top 47
noncomputable abbrev sLike : Stmt := top 48
noncomputable def Sm (x : Int) : Prop := -(2 ^ 64) < x ∧ x < 2 ^ 64
noncomputable abbrev fAt (H : Hp) (p : Addr) (f : Int × Int) : Prop := H p = some (.tup [.int f.1, .int f.2])
noncomputable def spSum : Sp := fun vs H Q _ => ∃ l ps fs, vs = [.ref l] ∧ H l = some (.lst ((ps : List Addr).map V.ref)) ∧ Paired (fAt H) ps fs ∧ (∀ f ∈ fs, Sm f.1 ∧ Sm f.2) ∧ ∀ p H', Same H H' → fAt H' p (sumF fs (0, 1)) → Q (.ref p) H'
noncomputable def spLike : Sp := fun vs H Q _ => ∃ p q f g, vs = [.ref p, .ref q] ∧ fAt H p f ∧ fAt H q g ∧ CMul f.1 g.2 ∧ CMul g.1 f.2 ∧ Q (.bl (decide (f.1 * g.2 = g.1 * f.2))) H
theorem pairGet {α β : Type} {R : α → β → Prop} : ∀ {l₁ : List α} {l₂ : List β} {i : Nat} {a : α}, Paired R l₁ l₂ → l₁[i]? = some a → ∃ b, l₂[i]? = some b ∧ R a b
  | _, _, 0, _, .cons r _, h => by cases h; exact ⟨_, rfl, r⟩
  | _, _, i + 1, _, .cons _ t, h => pairGet (i := i) t (by simpa using h)
theorem sumF_succ {fs : List (Int × Int)} {k : Nat} {f : Int × Int} (z : Int × Int) (h : fs[k]? = some f) : sumF (fs.take (k + 1)) z = ((sumF (fs.take k) z).1 * f.2 + f.1 * (sumF (fs.take k) z).2, (sumF (fs.take k) z).2 * f.2) := by
  unfold sumF
  rw [List.take_succ, h, List.foldl_append]
  rfl
section
variable {P : Program} {w : World} {K : PySem.W.Frag} {mg : Str → Option Value} {base : Heap}
theorem scSum : FnScope ["_law_fractions", "_law_top", "_law_bottom", "_law_one", "_law_other"] ["_law_fractions"] (defScope sSum) := ⟨rfl, rfl, rfl, by decide +kernel, rfl, by decide +kernel, by decide +kernel⟩
theorem ok_sum {f : Addr} {fd : FuncData} (F : Fun K "_law_sum" "_law_sum" sSum f fd) : FnOk P w K mg base CX0 1 f fd ["_law_fractions"] spSum := by
  refine F.ok scSum (fun vs H Q E h => ?_) (fun cdv A outer s H vs Q E hr h => ?_)
  · obtain ⟨l, ps, fs, rfl, _⟩ := h; rfl
  · obtain ⟨l, ps, fs, rfl, hl, hP, hb, q⟩ := h
    have nd := scSum.nd
    refine ⟨_, pss_cons (ps_asg (pe_tup (pa_c pe_int (pa_c pe_int pa_nil))) (pg_tup rfl (pgs_cons (pg_name (i := 1) nd rfl (Or.inl rfl)) (pgs_cons (pg_name (i := 2) nd rfl (Or.inl rfl)) pgs_nil)))) <|
      pss_cons (ps_for PassesOwn.never rfl (pi_list (pv 0)) (pg_tup rfl (pgs_cons (pg_name (i := 3) nd rfl (Or.inl rfl)) (pgs_cons (pg_name (i := 4) nd rfl (Or.inl rfl)) pgs_nil)))
        (pss_one (ps_par (i := 1) (j := 2) rfl nd rfl rfl (by decide) rfl rfl (pa_b (pe_op op_add (pe_op op_mul (pv 1) (pv 4)) (pe_op op_mul (pv 3) (pv 2))) (pa_b (pe_op op_mul (pv 2) (pv 4)) pa_nil)) rfl))) <|
      pss_one (ps_ret (pe_tup (pa_v (pv 1) (pa_v (pv 2) pa_nil)))), ?_⟩
    refine ⟨by show 2 ≤ sizeLine; decide, fun t ht => ⟨t, _, rfl, SqT.of upd_same, rfl, _, _, rfl, _, _, rfl, rfl, ?_⟩⟩
    have s1 := same_upd (o := .tup [.int 0, .int 1]) ht
    generalize hH1 : upd H t (.tup [.int 0, .int 1]) = H1 at s1
    have hl1 := s1 _ _ hl
    refine ⟨_, rfl, l, rfl, ⟨_, SqL.of hl1⟩, ?_⟩
    refine for_list (K := K) (a := l) (xs := ps.map V.ref) (fun k σ H' => H' = H1 ∧ ∃ o3 o4, σ = [some (.ref l), some (.int (sumF (fs.take k) (0, 1)).1), some (.int (sumF (fs.take k) (0, 1)).2), o3, o4]) ⟨rfl, _, _, rfl⟩ (fun k σ H' _ h => by rw [h.1]; exact SqL.of hl1) ?_ ?_
    · rintro k x σ H' hx ⟨rfl, o3, o4, rfl⟩
      rw [List.getElem?_map] at hx
      cases hpk : ps[k]? with
      | none => rw [hpk] at hx; cases hx
      | some p =>
        rw [hpk] at hx; cases hx
        obtain ⟨g, hg, he⟩ := pairGet hP hpk
        obtain ⟨b1, b2⟩ := hb g (List.mem_of_getElem? hg)
        refine ⟨p, _, rfl, SqT.of (s1 _ _ he), rfl, _, _, rfl, _, _, rfl, rfl, ?_⟩
        refine ⟨_, rfl, _, rfl, _, _, rfl, rfl, .inr b2, _, rfl, _, rfl, _, _, rfl, rfl, .inl b1, _, _, rfl, rfl, _, rfl, _, rfl, _, _, rfl, rfl, .inr b2, _, _, rfl, ?_⟩
        refine ⟨rfl, some (.int g.1), some (.int g.2), ?_⟩
        rw [sumF_succ _ hg]
        rfl
    · rintro σ H' ⟨rfl, o3, o4, rfl⟩
      rw [List.length_map, Paired.length hP, List.take_of_length_le (Nat.le_refl _)]
      exact ⟨_, rfl, _, rfl, by show 2 ≤ sizeLine; decide, fun p hp => q p _ (s1.trans (same_upd hp)) upd_same⟩
theorem scLike : FnScope ["_law_one", "_law_other"] ["_law_one", "_law_other"] (defScope sLike) := ⟨rfl, rfl, rfl, by decide +kernel, rfl, by decide +kernel, by decide +kernel⟩
theorem ok_like {f : Addr} {fd : FuncData} (F : Fun K "_law_like" "_law_like" sLike f fd) : FnOk P w K mg base CX0 1 f fd ["_law_one", "_law_other"] spLike := by
  refine F.ok scLike (fun vs H Q E h => ?_) (fun cdv A outer s H vs Q E hr h => ?_)
  · obtain ⟨p, q, f, g, rfl, _⟩ := h; rfl
  · obtain ⟨p, q', f', g, rfl, hp, hq, c1, c2, q⟩ := h
    refine ⟨_, pss_one (ps_ret (pe_cmpR op_eq (pe_op op_mul (pe_ix ix_tup (pv 0) pe_int (fun _ _ => rfl)) (pe_ix ix_tup (pv 1) pe_int (fun _ _ => rfl))) (pe_op op_mul (pe_ix ix_tup (pv 1) pe_int (fun _ _ => rfl)) (pe_ix ix_tup (pv 0) pe_int (fun _ _ => rfl))) (nomark _))), ?_⟩
    refine ⟨_, rfl, p, _, 0, .int f'.1, rfl, rfl, SqT.of hp, atI_nat (j := 0) rfl, _, rfl, q', _, 1, .int g.2, rfl, rfl, SqT.of hq, atI_nat (j := 1) rfl, _, _, rfl, rfl, c1, _, rfl, q', _, 0, .int g.1, rfl, rfl, SqT.of hq, atI_nat (j := 0) rfl, _, rfl, p, _, 1, .int f'.2, rfl, rfl, SqT.of hp, atI_nat (j := 1) rfl, _, _, rfl, rfl, c2, rfl, ?_⟩
    have ed : decide (V.int (f'.1 * g.2) = V.int (g.1 * f'.2)) = decide (f'.1 * g.2 = g.1 * f'.2) := decide_eq_decide.mpr ⟨fun z => V.int.inj z, fun z => by rw [z]⟩
    rw [ed]
    exact q
end
end M05
set_option Elab.async false
set_option linter.all false
set_option maxRecDepth 100000
set_option maxHeartbeats 4000000
namespace M05
open PySem L2 PyProof.Rows Set4
noncomputable abbrev sJoins : Stmt := top 49
noncomputable def hsI (cl : List C3) : List Int := (mem4 (holdS cl)).map fun k : Nat => (k : Int)
theorem hs_map (cl : List C3) : ((mem4 (holdS cl)).map fun k : Nat => V.int (k : Int)) = (hsI cl).map V.int := by unfold hsI; rw [List.map_map]; rfl
theorem mem_hs {cl : List C3} {h : Int} (hm : h ∈ hsI cl) : hasH cl h = true ∧ 0 ≤ h ∧ h ≤ 3 := by
  obtain ⟨k, hk, rfl⟩ := List.mem_map.mp hm
  have := mem_mem4.mp hk
  exact ⟨this.2, by (first | lia | omega), by (first | lia | omega)⟩
theorem hs_len (cl : List C3) : (hsI cl).length ≤ 4 := by unfold hsI; rw [List.length_map]; exact L_len _ _ _ _
noncomputable def shr (cs : List Int) (cl : List C3) (h : Int) : Int × Int := (frTop (cntH cs cl h) (cntAll cs cl), frBot (cntH cs cl h) (cntAll cs cl))
theorem shr_small {cs : List Int} {cl : List C3} (Gc : CuOk cs) (G : ClOk cl) (U : Under cs cl) (h : Int) : Sm (shr cs cl h).1 ∧ Sm (shr cs cl h).2 := by
  obtain ⟨h1, h2, h3⟩ := cntH_bounds Gc G U h
  obtain ⟨_, f2, f3, f4, f5⟩ := fr_eq h1.1 (show 0 < cntAll cs cl by (first | lia | omega))
  unfold Sm shr
  dsimp only
  constructor <;> (first | lia | omega)
theorem comp_sh {K : PySem.W.Frag} {l src : Addr} {hs : List Int} {te : TE} {H0 : Hp} {rest : L2.St} {Q : L2.St → Hp → Prop} (f : Int → Int × Int) (hsrc : H0 src = some (.lst (hs.map V.int))) (hl : H0 l = none) (hz : hs.length ≤ 1000)
    (turn : ∀ h H' Q', h ∈ hs → Same H0 H' → (∀ p H2, Same H' H2 → fAt H2 p (f h) → Q' (.ref p) H2) → te (some (.int h) :: rest) H' Q') (hQ : ∀ σ H' ps, Same H0 H' → H' l = some (.lst ((ps : List Addr).map V.ref)) → Paired (fAt H') ps (hs.map f) → Q σ H') :
    tForJ (Itl K src) (gName 0) (tBodyC tAll (tEmit l te)) (eC Q) (none :: rest) (upd H0 l (.lst [])) := by
  refine for_list (K := K) (a := src) (xs := hs.map V.int) (fun k σ H' => (∃ o, σ = o :: rest) ∧ Same H0 H' ∧ ∃ ps : List Addr, H' l = some (.lst (ps.map V.ref)) ∧ Paired (fAt H') ps ((hs.take k).map f)) ⟨⟨_, rfl⟩, same_upd hl, [], by rw [upd_same]; rfl, .nil⟩ (fun k σ H' _ h => SqL.of (h.2.1 _ _ hsrc)) ?_ ?_
  · rintro k x σ H' hx ⟨⟨o, rfl⟩, hs', ps, hl', hP⟩
    rw [List.getElem?_map] at hx
    cases hh : hs[k]? with
    | none => rw [hh] at hx; cases hx
    | some h =>
      rw [hh] at hx; cases hx
      have hk : k < hs.length := (List.getElem?_eq_some_iff.mp hh).1
      refine body_name ?_
      refine turn h H' _ (List.mem_of_getElem? hh) hs' fun p H2 s2 hp => ?_
      have hpl : ps.length ≤ k := by have := Paired.length hP; rw [List.length_map, List.length_take] at this; (first | lia | omega)
      have hl2 := s2 _ _ hl'
      refine ⟨_, hl2, small1000 (by rw [List.length_map]; (first | lia | omega)), ⟨_, rfl⟩, fun b u e => ?_, ps ++ [p], ?_, ?_⟩
      · rw [upd_ne (ne_of_none e hl)]; exact s2 _ _ (hs' _ _ e)
      · rw [upd_same, List.map_append]; rfl
      · rw [List.take_succ, hh, List.map_append]
        have up : ∀ b xs, H2 b = some (.tup xs) → (upd H2 l (.lst (ps.map V.ref ++ [.ref p]))) b = some (.tup xs) := fun b xs e => by rw [upd_ne (fun z => by rw [z, hl2] at e; cases e)]; exact e
        exact Paired.snoc (Paired.mapP hP fun _ _ e => up _ _ (s2 _ _ e)) (up _ _ hp)
  · rintro σ H' ⟨_, hs', ps, hl', hP⟩
    rw [List.length_map, List.take_of_length_le (Nat.le_refl _)] at hP
    exact hQ σ H' ps hs' hl' hP
theorem e3_pairs {H : Hp} : ∀ (fs : List (Int × Int)) {ps qs : List Addr}, Paired (fAt H) ps fs → Paired (fAt H) qs fs → ∃ ks, E3 (EqD H 1) (ps.map V.ref) (qs.map V.ref) ks ∧ ks.all id = true
  | [], ps, qs, h, h' => by
    cases h; cases h'
    exact ⟨[], trivial, rfl⟩
  | f :: fs, ps, qs, h, h' => by
    cases h with
    | cons r t =>
      cases h' with
      | cons r' t' =>
        obtain ⟨ks, h1, h2⟩ := e3_pairs fs t t'
        refine ⟨_ :: ks, ⟨.inr ⟨_, _, _, _, [decide (f.1 = f.1), decide (f.2 = f.2)], rfl, rfl, .inl ⟨r, r'⟩, ⟨EqD.int _ _ _, EqD.int _ _ _, trivial⟩, rfl⟩, h1⟩, ?_⟩
        rw [List.all_cons, h2]
        simp
theorem flt_take {α : Type} {l : List α} {k : Nat} {x : α} (p : α → Bool) (h : l[k]? = some x) : (l.take (k + 1)).filter p = (l.take k).filter p ++ (if p x = true then [x] else []) := by
  rw [List.take_succ, h, List.filter_append]
  congr 1
  show [x].filter p = _
  rw [List.filter_cons, List.filter_nil]
theorem e3_ints {H : Hp} (j : Int) : ∀ hs : List Int, E3 (EqD H 0) (hs.map V.int) ((hs.map V.int).map fun _ => V.int j) (hs.map fun h => decide (h = j))
  | [] => trivial
  | h :: hs => ⟨EqD.int _ _ _, e3_ints j hs⟩
noncomputable def spJoins : Sp := fun vs H Q _ => ∃ c a i j cs cl, vs = [.ref c, .ref a, .int i, .int j] ∧ cuAt H c cs ∧ CuOk cs ∧ ClT H a cl ∧ ClOk cl ∧ Under cs cl ∧ hasH cl i = true ∧ hasH cl j = true ∧ i ≠ j ∧ ∀ H', Same H H' → Q (.bl true) H'
noncomputable abbrev nJn : List Str := ["_law_custom_here", "_law_claims_here", "_law_one", "_law_other", "_law_both", "e", "_law_sum_of_two", "_law_rest"]
section
variable {P : Program} {w : World} {K : PySem.W.Frag} {mg : Str → Option Value} {base : Heap}
theorem scJoins : FnScope nJn ["_law_custom_here", "_law_claims_here", "_law_one", "_law_other"] (defScope sJoins) := ⟨rfl, rfl, rfl, by decide +kernel, rfl, by decide +kernel, by decide +kernel⟩
theorem ndQ1 : (["_law_holder", "_law_one", "_law_other"] : List Str).Nodup := by decide +kernel
theorem ndQ2 : (["_law_holder", "_law_custom_here", "_law_both"] : List Str).Nodup := by decide +kernel
theorem ndQ3 : (["_law_holder", "_law_custom_here", "_law_claims_here"] : List Str).Nodup := by decide +kernel
theorem ok_joins {f gJ gH gS gM gL CT : Addr} {fd dJ dH dS dM dL : FuncData} (F : Fun K "_law_joins" "_law_joins" sJoins f fd) (nmJ : mg "joined" = some (.ref gJ)) (kpJ : PySem.W.keepIn K (.ref gJ) = true) (bdJ : L2.Binds K dJ ["claims", "one", "other"] []) (okJ : FnOk P w K mg base (CXD P w) 6 gJ dJ ["claims", "one", "other"] (spJoined CT))
    (aH : At P w K mg base 6 "holders_of" gH dH ["claims"] spHoldersOf) (aS : At P w K mg base 8 "share_of" gS dS ["custom", "claims", "holder"] spShareOf) (aM : At P w K mg base 1 "_law_sum" gM dM ["_law_fractions"] spSum) (aL : At P w K mg base 1 "_law_like" gL dL ["_law_one", "_law_other"] spLike)
    (mT : mg "TooMany" = some (.ref CT)) (hex : PySem.W.exmOne K (.ref CT) (.ref CT) = some true) (cA : ExcA K CT) (n1 : NoAttr K CT "many") (n2 : NoAttr K CT "most") : FnOk P w K mg base CX0 9 f fd ["_law_custom_here", "_law_claims_here", "_law_one", "_law_other"] spJoins := by
  refine F.okTryD scJoins (fun vs H Q E h => ?_) rfl rfl mT (i := 5) rfl rfl (by decide) (fun cdv A outer s H vs Q E hr h => ?_)
  · obtain ⟨c, a, i, j, cs, cl, rfl, _⟩ := h; rfl
  · obtain ⟨c, a, i, j, cs, cl, rfl, hc, Gc, hA, G, hU, hi, hj, hij, q⟩ := h
    have nd := scJoins.nd
    have hu := hu_of hr
    have hu1 := hu1_of hr
    refine ⟨fun cls d H' => cls = .ref CT ∧ ∃ m dd, d = some dd ∧ 20 < m ∧ H' dd = some (xdO dd (xFs m)) ∧ Same H H', _, _, _,
      pss_one (ps_set (i := 4) nd rfl (Or.inr rfl) (pe_call okJ (hr.mono (by decide)) rfl nmJ kpJ bdJ .nil pass_landsD (pa_v (pv 1) (pa_v (pv 2) (pa_v (pv 3) pa_nil))))),
      (fun e oe => pss_one (ps_ret (pe_and (pe_cmpR op_gt (pe_fldE (pv 5) rfl) pe_int (nomark _)) (pe_one (pe_cmpR op_eq (pe_fldE (pv 5) rfl) pe_int (nomark _)))))),
      pss_cons (ps_set (i := 6) nd rfl (Or.inl rfl) (pe_call aM.ok (hr.mono (by decide)) rfl aM.nm aM.kp aM.bd .nil pass0 (pa_l (pe_lst (pa_k (pe_call aS.ok hr rfl aS.nm aS.kp aS.bd .nil pass0 (pa_v (pv 0) (pa_v (pv 1) (pa_v (pv 2) pa_nil)))) (pa_k (pe_call aS.ok hr rfl aS.nm aS.kp aS.bd .nil pass0 (pa_v (pv 0) (pa_v (pv 1) (pa_v (pv 3) pa_nil)))) pa_nil))) pa_nil))) <|
      pss_cons (ps_if (PW.pt (pw_or (pt_cmpR (op_inD 0 hu) (pv 3) (pe_call aH.ok (hr.mono (by decide)) rfl aH.nm aH.kp aH.bd .nil pass0 (pa_v (pv 4) pa_nil)) rfl)
        (pw_or1 (pt_not (pt_val (pe_call aL.ok (hr.mono (by decide)) rfl aL.nm aL.kp aL.bd .nil pass0 (pa_k (pe_call aS.ok hr rfl aS.nm aS.kp aS.bd .nil pass0 (pa_v (pv 0) (pa_v (pv 4) (pa_v (pv 2) pa_nil)))) (pa_v (pv 6) pa_nil)))))))) pss_never pss_nil) <|
      pss_cons (ps_setC1 (i := 7) (defScope sJoins).names nJn ["_law_holder"] [("_law_one", 2), ("_law_other", 3)] rfl nd rfl rfl (pi_list (pe_call aH.ok (hr.mono (by decide)) rfl aH.nm aH.kp aH.bd .nil pass0 (pa_v (pv 1) pa_nil))) rfl rfl rfl (by decide +kernel)
        (fun Z => pg_name (i := 0) ndQ1 rfl (Or.inl rfl)) (fun Z => pts_one (pt_cmpR (op_notInD 0 hu) (pv 0) (pe_tup (pa_v (pv 1) (pa_v (pv 2) pa_nil))) rfl)) (fun Z => pv 0)) <|
      pss_one (ps_ret (pe_cmpR (op_eqD 1 hu1) (pe_comp1 (defScope sJoins).names nJn ["_law_holder"] [("_law_custom_here", 0), ("_law_both", 4)] rfl (pi_list (pv 7)) rfl rfl rfl (by decide +kernel)
          (fun Z => pg_name (i := 0) ndQ2 rfl (Or.inl rfl)) (fun Z => pts_nil) (fun Z => pe_call aS.ok hr rfl aS.nm aS.kp aS.bd .nil pass0 (pa_v (pv 1) (pa_v (pv 2) (pa_v (pv 0) pa_nil)))))
        (pe_comp1 (defScope sJoins).names nJn ["_law_holder"] [("_law_custom_here", 0), ("_law_claims_here", 1)] rfl (pi_list (pv 7)) rfl rfl rfl (by decide +kernel)
          (fun Z => pg_name (i := 0) ndQ3 rfl (Or.inl rfl)) (fun Z => pts_nil) (fun Z => pe_call aS.ok hr rfl aS.nm aS.kp aS.bd .nil pass0 (pa_v (pv 1) (pa_v (pv 2) (pa_v (pv 0) pa_nil))))) (nomark _))), ?_, ?_, ?_⟩
    · refine ⟨_, rfl, _, rfl, _, rfl, a, i, j, cl, rfl, hA, G, hi, hj, hij, fun d H' m sE hm hd => ⟨rfl, m, d, rfl, hm, hd, sE⟩, fun b cl' H1 s1 hB G' hp => ?_⟩
      have hU' : Under cs cl' := fun x hx => joinL_under hU i j x (hp.mem_iff.mp hx)
      have hi' : hasH cl' i = true := by
        rw [hasH_perm hp]
        exact has_mem.mpr (joinL_one G hi)
      have hj' : hasH cl' j = false := (hasH_perm hp j).trans (join_gone hij)
      have eT : cntAll cs cl' = cntAll cs cl := (cnt_perm cs hp).trans (join_all G i j)
      have ei : cntH cs cl' i = cntH cs cl i + cntH cs cl j := (cntH_perm cs hp i).trans (join_one G hij)
      have hTpos : 0 < cntAll cs cl := by have := (cntH_bounds Gc G hU i).2.1; (first | lia | omega)
      have hc1 := s1 _ _ hc
      have hA1 := hA.ext s1.ext
      refine ⟨_, rfl, _, rfl, _, rfl, c, a, cs, cl, i, rfl, hc1, Gc, hA1, G, hU, hi, fun p1 H2 s2 hp1 => ?_⟩
      refine ⟨_, rfl, _, rfl, _, rfl, c, a, cs, cl, j, rfl, s2 _ _ hc1, Gc, hA1.ext s2.ext, G, hU, hj, fun p2 H3 s3 hp2 => ?_⟩
      refine ⟨by show 2 ≤ sizeLine; decide, fun t ht => ?_⟩
      have s4 := same_upd (o := .lst [.ref p1, .ref p2]) ht
      refine ⟨t, [p1, p2], [shr cs cl i, shr cs cl j], rfl, upd_same, .cons (s4 _ _ (s3 _ _ hp1)) (.cons (s4 _ _ hp2) .nil), fun g hg => ?_, fun p3 H5 s5 hp3 => ?_⟩
      · rcases List.mem_cons.mp hg with rfl | hg
        · exact shr_small Gc G hU i
        · rw [List.mem_singleton.mp hg]; exact shr_small Gc G hU j
      have s15 := ((s2.trans s3).trans s4).trans s5
      refine ⟨_, rfl, _, rfl, b, cl', rfl, hB.ext s15.ext, G', fun l H6 hl0 s6 hl6 => ⟨l, _, _, rfl, .inr (hl6.trans (by rw [hs_map])), e3_ints j _, _, rfl, ?_⟩⟩
      have ej : ((hsI cl').map fun h => decide (h = j)).any id = false := by
        rw [List.any_map, List.any_eq_false]
        intro h hh e
        have e' : h = j := of_decide_eq_true e
        have := (mem_hs hh).1
        rw [e', hj'] at this; cases this
      show if (id (((hsI cl').map fun h => decide (h = j)).any id)) = true then _ else _
      rw [ej]
      refine iteF ?_
      have s16 := s15.trans s6
      refine ⟨_, rfl, _, rfl, _, rfl, c, b, cs, cl', i, rfl, s16 _ _ hc1, Gc, hB.ext s16.ext, G', hU', hi', fun p4 H7 s7 hp4 => ?_⟩
      refine ⟨_, rfl, p4, p3, shr cs cl' i, _, rfl, hp4, s7 _ _ (s6 _ _ hp3), .inl (shr_small Gc G' hU' i).1, .inr (shr_small Gc G' hU' i).2, _, rfl, ?_⟩
      have el : (shr cs cl' i).1 * (sumF [shr cs cl i, shr cs cl j] (0, 1)).2 = (sumF [shr cs cl i, shr cs cl j] (0, 1)).1 * (shr cs cl' i).2 := by
        unfold shr
        rw [eT, ei]
        have h1 := (cntH_bounds Gc G hU i).1.1
        have h2 := (cntH_bounds Gc G hU j).1.1
        exact sum_like hTpos h1 h2
      rw [decide_eq_true el]
      refine iteF ?_
      have s17 := s16.trans s7
      refine ⟨_, rfl, a, cl, rfl, hA1.ext s17.ext, G, fun l3 H8 _ s8 hl8 => ?_⟩
      rw [hs_map] at hl8
      refine ⟨l3, rfl, ⟨_, SqL.of hl8⟩, fun Z l4 hl4 => ?_⟩
      have s18 := s17.trans s8
      refine for_list (K := K) (a := l3) (xs := (hsI cl).map V.int) (fun k σ H' => (∃ o, σ = [o, some (.int i), some (.int j)]) ∧ Same H8 H' ∧ H' l4 = some (.lst ((((hsI cl).take k).filter fun h => !(decide (i = h) || decide (j = h))).map V.int))) ⟨⟨_, rfl⟩, same_upd hl4, by rw [upd_same]; rfl⟩ (fun k σ H' _ h => SqL.of (h.2.1 _ _ hl8)) ?_ ?_
      · rintro k x σ H' hx ⟨⟨o, rfl⟩, hs, hl'⟩
        rw [List.getElem?_map] at hx
        cases hh : (hsI cl)[k]? with
        | none => rw [hh] at hx; cases hx
        | some h =>
          rw [hh] at hx; cases hx
          have hk : k < (hsI cl).length := (List.getElem?_eq_some_iff.mp hh).1
          have h4 := hs_len cl
          show tBodyC _ _ _ [some (.int h), some (.int i), some (.int j)] H'
          refine ⟨_, rfl, _, rfl, _, rfl, by show 2 ≤ sizeLine; decide, fun t9 ht9 => ?_⟩
          have t1 := same_upd (o := .tup [.int i, .int j]) ht9
          refine ⟨t9, [.int i, .int j], [decide (i = h), decide (j = h)], rfl, .inl upd_same, ⟨EqD.int _ _ _, EqD.int _ _ _, trivial⟩, _, rfl, ?_⟩
          have ed : (!([decide (i = h), decide (j = h)].any id)) = !(decide (i = h) || decide (j = h)) := by simp
          rw [ed]
          have et : ((hsI cl).take (k + 1)).filter (fun h => !(decide (i = h) || decide (j = h))) = ((hsI cl).take k).filter (fun h => !(decide (i = h) || decide (j = h))) ++ (if (!(decide (i = h) || decide (j = h))) = true then [h] else []) := by
            exact flt_take _ hh
          have hlt := t1 _ _ hl'
          refine iteB (fun hz => ?_) fun hz => ?_
          · have h3 := List.length_filter_le (fun h => !(decide (i = h) || decide (j = h))) ((hsI cl).take k)
            rw [List.length_take] at h3
            refine ⟨_, rfl, _, hlt, small1000 (by rw [List.length_map]; (first | lia | omega)), ⟨_, rfl⟩, fun b2 u e => ?_, ?_⟩
            · rw [upd_ne (ne_of_none e hl4)]; exact t1 _ _ (hs _ _ e)
            · rw [upd_same, et, if_pos hz, List.map_append]; rfl
          · refine ⟨⟨_, rfl⟩, hs.trans t1, ?_⟩
            rw [et, if_neg (by rw [hz]; decide), List.append_nil]
            exact hlt
      rintro σ H9 ⟨_, s9, hl9⟩
      rw [List.length_map, List.take_of_length_le (Nat.le_refl _)] at hl9
      generalize hrs : (hsI cl).filter (fun h => !(decide (i = h) || decide (j = h))) = rs at hl9
      have hr4 : rs.length ≤ 4 := by
        rw [← hrs]
        exact Nat.le_trans (List.length_filter_le _ _) (hs_len cl)
      have hrm : ∀ h ∈ rs, hasH cl h = true ∧ h ≠ i ∧ h ≠ j := fun h hh => by
        rw [← hrs] at hh
        obtain ⟨m1, m2⟩ := List.mem_filter.mp hh
        have m3 : ¬ (i = h) ∧ ¬ (j = h) := by simpa using m2
        exact ⟨(mem_hs m1).1, fun z => m3.1 z.symm, fun z => m3.2 z.symm⟩
      have s19 := s18.trans s9
      refine ⟨_, rfl, l4, rfl, ⟨_, SqL.of hl9⟩, fun Z5 l5 hl5 => ?_⟩
      refine comp_sh (rest := [some (.ref c), some (.ref b)]) (shr cs cl') hl9 hl5 (by (first | lia | omega)) (fun h H' Q' hm hs hq => ?_) fun σ H10 ps s10 hl10 hP10 => ?_
      · obtain ⟨r1, r2, r3⟩ := hrm h hm
        exact ⟨_, rfl, _, rfl, _, rfl, c, b, cs, cl', h, rfl, hs _ _ (s19 _ _ hc1), Gc, (hB.ext s19.ext).ext hs.ext, G', hU', (hasH_perm hp h).trans (join_has r2 r3 r1), fun p H2 s2 hp => hq p H2 s2 hp⟩
      refine ⟨_, rfl, l4, rfl, ⟨_, SqL.of (s10 _ _ hl9)⟩, fun Z6 l6 hl6 => ?_⟩
      refine comp_sh (rest := [some (.ref c), some (.ref a)]) (shr cs cl) (s10 _ _ hl9) hl6 (by (first | lia | omega)) (fun h H' Q' hm hs hq => ?_) fun σ H11 qs s11 hl11 hP11 => ?_
      · obtain ⟨r1, r2, r3⟩ := hrm h hm
        exact ⟨_, rfl, _, rfl, _, rfl, c, a, cs, cl, h, rfl, hs _ _ (s10 _ _ (s19 _ _ hc1)), Gc, ((hA1.ext s19.ext).ext s10.ext).ext hs.ext, G, hU, r1, fun p H2 s2 hp => hq p H2 s2 hp⟩
      have es : rs.map (shr cs cl') = rs.map (shr cs cl) := List.map_congr_left fun h hm => by
        obtain ⟨r1, r2, r3⟩ := hrm h hm
        unfold shr
        rw [eT, (cntH_perm cs hp h).trans (join_rest r2 r3)]
      rw [es] at hP10
      obtain ⟨ks, k1, k2⟩ := e3_pairs _ (Paired.mapP hP10 fun _ _ e => s11 _ _ e) hP11
      refine ⟨l5, l6, _, _, ks, rfl, rfl, .inr ⟨s11 _ _ hl10, hl11⟩, k1, ?_⟩
      rw [k2]
      exact q _ (((s1.trans s19).trans s10).trans s11)
    · rintro cls d H' ⟨rfl, _⟩
      exact hex
    · rintro e oe cls d H' rfl rfl nc ⟨hcl, m, dd, hdd, hm, hH, sE⟩
      refine ⟨_, rfl, CT, dd, _, .int m, rfl, hcl, hdd, nc, cA, n1, hH, rfl, _, _, rfl, rfl, _, rfl, ?_⟩
      rw [decide_eq_true (show (20 : Int) < m from hm)]
      refine iteT ⟨_, rfl, CT, dd, _, .int 20, rfl, hcl, hdd, nc, cA, n2, hH, rfl, rfl, ?_⟩
      exact q _ sE
end
end M05
set_option Elab.async false
set_option linter.all false
set_option maxRecDepth 100000
set_option maxHeartbeats 4000000
namespace M05
open PySem L2 PyProof.Rows Set4
noncomputable abbrev sLaw : Stmt := top 50
noncomputable def forBody (s : Stmt) : List Stmt := match s with | .For _ _ b _ _ => b | _ => []
noncomputable def cell1 : List Stmt := forBody ((defBody sLaw).getD 0 (.Pass ⟨0, 0, 0, 0⟩))
noncomputable def tail1 : List Stmt := cell1.drop 8
noncomputable abbrev nLw : List Str := ["_law_script", "_law_cell_here", "_law_pen_here", "_law_custom_here", "_law_claims_here", "_law_holders", "_law_shares", "_law_claim", "_law_times", "_law_great", "_law_again", "_law_holder"]
theorem scLaw : FnScope nLw ["_law_script"] (defScope sLaw) := ⟨rfl, rfl, rfl, by decide +kernel, rfl, by decide +kernel, by decide +kernel⟩
noncomputable abbrev σL (sa p c a hl sl : Addr) (ce : Int) (o7 o8 o9 o10 o11 : Option V) : L2.St := [some (.ref sa), some (.int ce), some (.ref p), some (.ref c), some (.ref a), some (.ref hl), some (.ref sl), o7, o8, o9, o10, o11]
theorem ndR1 : (["_law_count", "_law_times"] : List Str).Nodup := by decide +kernel
theorem ndR2 : (["_law_holder", "_law_great", "_law_claims_here"] : List Str).Nodup := by decide +kernel
theorem ndR3 : (["_law_one", "_law_holder"] : List Str).Nodup := by decide +kernel
theorem hs_nodup (cl : List C3) : (hsI cl).Nodup := by
  unfold hsI mem4
  cases holdS cl 0 <;> cases holdS cl 1 <;> cases holdS cl 2 <;> cases holdS cl 3 <;> decide
theorem great_ok {cs : List Int} (Gc : CuOk cs) {M k : Int} (hM : ∀ x ∈ cs, x ≤ M) (h1 : 1 ≤ M) (hk1 : 1 ≤ k) (hk : k ≤ 100 / M) : CuOk (cs.map (· * k)) := by
  refine ⟨by rw [List.length_map]; exact Gc.l1, by rw [List.length_map]; exact Gc.l6, fun x hx => ?_⟩
  obtain ⟨y, hy, rfl⟩ := List.mem_map.mp hx
  have h2 := Gc.num y hy
  have h3 := hM y hy
  have h4 : M * k ≤ 100 := by
    have := Int.mul_le_mul_of_nonneg_left hk (show 0 ≤ M by (first | lia | omega))
    have h5 := Int.mul_ediv_self_le (x := 100) (k := M) (by (first | lia | omega))
    (first | lia | omega)
  have h6 := Int.mul_le_mul_of_nonneg_right h3 (show 0 ≤ k by (first | lia | omega))
  have h7 := Int.mul_le_mul h2.1 hk1 (by (first | lia | omega)) (by (first | lia | omega))
  constructor
  · show 1 ≤ y * k; (first | lia | omega)
  · show y * k ≤ 100; (first | lia | omega)
theorem atI_last {α : Type} {xs : List α} {x : α} (h : xs[xs.length - 1]? = some x) : atI xs (-1) = some x := by
  have hl : 0 < xs.length := by
    have := (List.getElem?_eq_some_iff.mp h).1; (first | lia | omega)
  have e : ixN xs.length (-1) = some (xs.length - 1) := by
    unfold ixN
    rw [if_neg (by decide), if_pos (by (first | lia | omega))]
    congr 1
    (first | lia | omega)
  unfold atI
  rw [e]
  exact h
section
variable {P : Program} {w : World} {K : PySem.W.Frag} {mg : Str → Option Value} {base : Heap}
theorem law_tail {f gD gS gI gC gJ : Addr} {dD dS dI dC dJ : FuncData} (T : Txt mg) (aD : At P w K mg base 1 "_law_draw" gD dD ["_law_pen_here", "_law_bound"] spDraw) (aS : At P w K mg base 8 "share_of" gS dS ["custom", "claims", "holder"] spShareOf) (aI : At P w K mg base 3 "is_custom" gI dI ["thing"] spCustom) (aC : At P w K mg base 7 "count_of" gC dC ["custom", "claims", "holder"] spCountOf)
    (aJ : At P w K mg base 9 "_law_joins" gJ dJ ["_law_custom_here", "_law_claims_here", "_law_one", "_law_other"] spJoins) (cdv : Value) (A : Around) (outer : List Env) (s : Shared) (H : Hp) (E : XK) (hr : Room 9 (A.deeper (envOfC "law" (defScope sLaw) s.heap.objs.size f cdv))) :
    ∃ tt, PSs (cxOf CX0 P w K mg base nLw "law" (defScope sLaw) f cdv A outer s H E).nox tail1 tt ∧ ∀ (sa p c a hl sl : Addr) (ce : Int) (o7 o8 o9 o10 o11 : Option V) (cs : List Int) (cl : List C3) (ps : List Addr) (H1 : Hp) (De : Ends), PenAt H1 p → cuAt H1 c cs → CuOk cs → ClT H1 a cl → ClOk cl → Under cs cl →
      H1 hl = some (.lst ((hsI cl).map V.int)) → hl ≠ p → H1 sl = some (.lst (ps.map V.ref)) → sl ≠ p → Paired (fAt H1) ps ((hsI cl).map (shr cs cl)) → (∀ o8' o9' o10' o11' H2, Stp p H1 H2 → De.nx (σL sa p c a hl sl ce o7 o8' o9' o10' o11') H2) → tt De (σL sa p c a hl sl ce o7 o8 o9 o10 o11) H1 := by
  have nd := scLaw.nd
  have hu1 := hu1_of hr
  have r1 : Room 1 _ := hr.mono (by decide)
  have r8 : Room 8 _ := hr.mono (by decide)
  refine ⟨_, pss_cons (ps_set (i := 8) nd rfl (Or.inr rfl) (pe_op op_add pe_int (pe_call aD.ok r1 rfl aD.nm aD.kp aD.bd .nil pass0 (pa_v (pv 2) (pa_b (pe_op op_fdiv pe_int (pe_callB (call_maxT rfl) rfl T.max boot_max (pa_v (pv 3) pa_nil))) pa_nil))))) <|
    pss_cons (ps_set (i := 9) nd rfl (Or.inr rfl) (pe_callTy call_tuple_of rfl T.tuple boot_tuple (pa_lc (pe_comp1 (defScope sLaw).names nLw ["_law_count"] [("_law_times", 8)] rfl (pi_tup (pv 3)) rfl rfl rfl (by decide +kernel) (fun Z => pg_name (i := 0) ndR1 rfl (Or.inl rfl)) (fun Z => pts_nil) (fun Z => pe_op op_mul (pv 0) (pv 1))) pa_nil))) <|
    pss_cons (ps_setC1 (i := 10) (defScope sLaw).names nLw ["_law_holder"] [("_law_great", 9), ("_law_claims_here", 4)] rfl nd rfl rfl (pi_list (pv 5)) rfl rfl rfl (by decide +kernel) (fun Z => pg_name (i := 0) ndR2 rfl (Or.inl rfl)) (fun Z => pts_nil) (fun Z => pe_call aS.ok r8 rfl aS.nm aS.kp aS.bd .nil pass0 (pa_v (pv 1) (pa_v (pv 2) (pa_v (pv 0) pa_nil))))) <|
    pss_cons (ps_if (PW.pt (pw_or (pt_not (pt_val (pe_call aI.ok (hr.mono (by decide)) rfl aI.nm aI.kp aI.bd .nil pass0 (pa_v (pv 9) pa_nil)))) (pw_or1 (pt_cmpR (op_neD 1 hu1) (pv 10) (pv 6) (nomark _))))) pss_never pss_nil) <|
    pss_cons (ps_for PassesOwn.never rfl (pi_list (pv 5)) (pg_name (i := 11) nd rfl (Or.inr rfl)) (pss_one (ps_if (pt_cmpR op_lt (pe_call aC.ok (hr.mono (by decide)) rfl aC.nm aC.kp aC.bd .nil pass0 (pa_v (pv 3) (pa_v (pv 4) (pa_v (pv 11) pa_nil))))
      (pe_callB (call_sumK rfl) rfl T.sum boot_sum (pa_lc (pe_comp1 (defScope sLaw).names nLw ["_law_one"] [("_law_holder", 11)] rfl (pi_tup (pv 4)) rfl rfl rfl (by decide +kernel) (fun Z => pg_name (i := 0) ndR3 rfl (Or.inl rfl)) (fun Z => pts_one (pt_cmpR op_eq (pe_ix ix_tup (pv 0) pe_int (fun _ _ => rfl)) (pv 1) (nomark _))) (fun Z => pe_ix ix_tup (pv 0) pe_int (fun _ _ => rfl))) pa_nil)) (nomark _)) pss_never pss_nil))) <|
    pss_one (ps_if (PW.pt (pw_and (pt_cmpR op_gt (pe_callB call_len_seq rfl T.len PySem.boot_len (pa_v (pv 5) pa_nil)) pe_int (nomark _)) (pw_and1 (pt_not (pt_val (pe_call aJ.ok hr rfl aJ.nm aJ.kp aJ.bd .nil pass0 (pa_v (pv 3) (pa_v (pv 4) (pa_s (pe_ix ix_list (pv 5) pe_int (fun _ _ => rfl)) (pa_s (pe_ix ix_list (pv 5) (pe_un un_neg pe_int) (fun _ _ => rfl)) pa_nil)))))))))) pss_never pss_nil), ?_⟩
  intro sa p c a hl sl ce o7 o8 o9 o10 o11 cs cl ps H1 De pen hc Gc hA G hU hhl nhl hsl nsl hP k
  have hc1 := Gc.l1
  refine ⟨_, rfl, _, rfl, c, cs, rfl, SqT.of hc, by (first | lia | omega), fun M hM hMx => ?_⟩
  have hMn := Gc.num M hM
  have hdiv : 1 ≤ 100 / M ∧ 100 / M ≤ 100 := by
    constructor
    · have := Int.ediv_le_ediv (a := M) (b := 100) (c := M) (by (first | lia | omega)) (by (first | lia | omega))
      rw [Int.ediv_self (by (first | lia | omega))] at this; exact this
    · exact Int.ediv_le_self _ (by (first | lia | omega))
  refine ⟨_, _, rfl, rfl, ⟨by (first | lia | omega), by (first | lia | omega)⟩, p, _, rfl, pen, by (first | lia | omega), by (first | lia | omega), fun d H2 d0 d1 st2 => ?_⟩
  refine ⟨_, _, rfl, rfl, ?_⟩
  have hc2 : cuAt H2 c cs := st2.keep c _ (pen.ne hc (by intro z; simp)) hc
  have hA2 := hA.ext (st2.ext pen)
  have hhl2 := st2.keep hl _ nhl hhl
  have hsl2 := st2.keep sl _ nsl hsl
  have hP2 : Paired (fAt H2) ps ((hsI cl).map (shr cs cl)) := Paired.mapP hP fun b f e => st2.keep b _ (pen.ne e (by intro z; simp)) e
  have Gg := great_ok Gc hMx (by (first | lia | omega)) (show 1 ≤ 1 + d by (first | lia | omega)) (show 1 + d ≤ 100 / M by (first | lia | omega))
  have hkd1 : 0 < (1 + d) := by (first | lia | omega)
  have hkd2 : (1 + d) ≤ 100 := by (first | lia | omega)
  refine ⟨_, rfl, c, rfl, ⟨_, SqT.of hc2⟩, fun Z l hl0 => ?_⟩
  refine comp_map (rest := [some (.int (1 + d))]) (fun v => match v with | .int x => .int (x * (1 + d)) | v => v) hc2 hl0 (by rw [List.length_map]; have := Gc.l6; (first | lia | omega)) (fun x H' Q' hm hs hq => ?_) fun σ H3 s3 hl3 => ?_
  · obtain ⟨y, hy, rfl⟩ := List.mem_map.mp hm
    exact ⟨_, rfl, _, rfl, _, _, rfl, rfl, .inr ⟨by (first | lia | omega), by (first | lia | omega)⟩, hq _ (Same.refl _)⟩
  have e3 : H3 l = some (.lst ((cs.map (· * (1 + d))).map V.int)) := by rw [hl3, List.map_map, List.map_map]; rfl
  refine ⟨l, _, rfl, .inl ⟨SqL.of e3, fun g hg => ?_⟩⟩
  have s4 := same_upd (o := .tup ((cs.map (· * (1 + d))).map V.int)) hg
  have s24 := s3.trans s4
  have hg4 : cuAt (upd H3 g (.tup ((cs.map (· * (1 + d))).map V.int))) g (cs.map (· * (1 + d))) := upd_same
  generalize upd H3 g (.tup ((cs.map (· * (1 + d))).map V.int)) = H4 at s4 s24 hg4 ⊢
  have hUg : Under (cs.map (· * (1 + d))) cl := fun x hx => by rw [List.length_map]; exact hU x hx
  have hhl4 := s24 _ _ hhl2
  have hA4 := hA2.ext s24.ext
  refine ⟨_, rfl, hl, rfl, ⟨_, SqL.of hhl4⟩, fun Z2 l2 hl2 => ?_⟩
  refine comp_sh (rest := [some (.ref g), some (.ref a)]) (shr (cs.map (· * (1 + d))) cl) hhl4 hl2 (by have := hs_len cl; (first | lia | omega)) (fun h H' Q' hm hs hq => ⟨_, rfl, _, rfl, _, rfl, g, a, _, cl, h, rfl, hs _ _ hg4, Gg, hA4.ext hs.ext, G, hUg, (mem_hs hm).1, fun p' H2 s2 hp => hq p' H2 s2 hp⟩) fun σ' H5 qs s5 hl5 hP5 => ?_
  refine ⟨_, rfl, g, _, rfl, s5 _ _ hg4, Gg, fun H6 s6 => ⟨_, rfl, iteF ?_⟩⟩
  have es : (hsI cl).map (shr (cs.map (· * (1 + d))) cl) = (hsI cl).map (shr cs cl) := List.map_congr_left fun h hm => by
    have hb := cntH_bounds Gc G hU h
    unfold shr
    have e1 : cntH (cs.map (· * (1 + d))) cl h = cntH cs cl h * (1 + d) := cnt_scale cs (1 + d) _
    rw [e1, cnt_scale]
    obtain ⟨f1, f2⟩ := fr_scale hb.1.1 (show 0 < cntAll cs cl by (first | lia | omega)) hkd1
    rw [f1, f2]
  rw [es] at hP5
  have s26 := (s24.trans s5).trans s6
  obtain ⟨ks, k1, k2⟩ := e3_pairs _ (Paired.mapP hP5 fun _ _ e => s6 _ _ e) (Paired.mapP hP2 fun _ _ e => s26 _ _ e)
  refine ⟨_, rfl, _, rfl, l2, sl, _, _, ks, rfl, rfl, .inr ⟨s6 _ _ hl5, s26 _ _ hsl2⟩, k1, _, rfl, ?_⟩
  rw [k2]
  refine iteF ?_
  have hhl6 := s26 _ _ hhl2
  have hA6 := hA2.ext s26.ext
  have hc6 := s26 _ _ hc2
  refine ⟨_, rfl, hl, rfl, ⟨_, SqL.of hhl6⟩, ?_⟩
  refine for_list (K := K) (a := hl) (xs := (hsI cl).map V.int) (fun i σ H' => (∃ o, σ = σL sa p c a hl sl ce o7 (some (.int (1 + d))) (some (.ref g)) (some (.ref l2)) o) ∧ Same H6 H') ⟨⟨_, rfl⟩, Same.refl _⟩ (fun i σ H' _ h => SqL.of (h.2 _ _ hhl6)) ?_ ?_
  · rintro i x σ H7 hx ⟨⟨o, rfl⟩, s7⟩
    rw [List.getElem?_map] at hx
    cases hh : (hsI cl)[i]? with
    | none => rw [hh] at hx; cases hx
    | some h =>
      rw [hh] at hx; cases hx
      have hm := mem_hs (List.mem_of_getElem? hh)
      refine ⟨_, rfl, _, rfl, _, rfl, c, a, cs, cl, h, rfl, s7 _ _ hc6, Gc, hA6.ext s7.ext, G, hU, hm.1, fun H8 s8 => ?_⟩
      obtain ⟨bs, ha8, hC8⟩ := (hA6.ext s7.ext).ext s8.ext
      have hlb : bs.length = cl.length := Paired.length hC8
      have h12 := G.l12
      refine ⟨_, rfl, a, rfl, ⟨_, SqT.of ha8⟩, fun Z7 l7 hl7 => ?_⟩
      refine for_tup (K := K) (a := a) (xs := bs.map V.ref) (fun j σ H' => (∃ o, σ = [o, some (.int h)]) ∧ Same H8 H' ∧ H' l7 = some (.lst ((ofH (cl.take j) h).map fun c => V.int c.2.2))) ⟨⟨_, rfl⟩, same_upd hl7, by rw [upd_same]; rfl⟩ (fun j σ H' _ h => SqT.of (h.2.1 _ _ ha8)) ?_ ?_
      · rintro j x σ H' hx ⟨⟨o, rfl⟩, hs, hl'⟩
        rw [List.getElem?_map] at hx
        cases hb : bs[j]? with
        | none => rw [hb] at hx; cases hx
        | some b =>
          rw [hb] at hx; cases hx
          obtain ⟨y, hy, he⟩ := hC8.get hb
          have hj : j < bs.length := (List.getElem?_eq_some_iff.mp hb).1
          show tBodyC _ _ _ [some (.ref b), some (.int h)] H'
          refine ⟨_, rfl, b, _, 0, .int y.1, rfl, rfl, SqT.of (hs _ _ he), atI_nat (j := 0) rfl, _, rfl, rfl, _, rfl, ?_⟩
          have ed : decide (V.int y.1 = V.int h) = decide (y.1 = h) := decide_eq_decide.mpr ⟨fun z => V.int.inj z, fun z => by rw [z]⟩
          rw [ed]
          have et : ofH (cl.take (j + 1)) h = ofH (cl.take j) h ++ (if decide (y.1 = h) = true then [y] else []) := flt_take _ hy
          have h3 := List.length_filter_le (fun c : C3 => decide (c.1 = h)) (cl.take j)
          rw [List.length_take] at h3
          refine iteB (fun hz => ?_) fun hz => ?_
          · refine ⟨_, rfl, b, _, 2, .int y.2.2, rfl, rfl, SqT.of (hs _ _ he), atI_nat (j := 2) rfl, _, hl', small1000 (by rw [List.length_map]; unfold ofH; (first | lia | omega)), ⟨_, rfl⟩, fun b2 u e => ?_, ?_⟩
            · rw [upd_ne (ne_of_none e hl7)]; exact hs _ _ e
            · rw [upd_same, et, if_pos hz, List.map_append]; rfl
          · refine ⟨⟨_, rfl⟩, hs, ?_⟩
            rw [et, if_neg (by rw [hz]; decide), List.append_nil]
            exact hl'
      rintro σ2 H9 ⟨_, s9, hl9⟩
      rw [List.length_map, hlb, List.take_of_length_le (Nat.le_refl _)] at hl9
      have h3 := List.length_filter_le (fun c : C3 => decide (c.1 = h)) cl
      refine ⟨l7, (ofH cl h).map (fun c : C3 => c.2.2), rfl, SqL.of (by rw [hl9, List.map_map]; rfl), by rw [List.length_map]; unfold ofH; (first | lia | omega), fun n hn => ?_, ?_⟩
      · obtain ⟨c', hc', rfl⟩ := List.mem_map.mp hn
        have := (G.num c' (List.mem_filter.mp hc').1).2.2
        (first | lia | omega)
      have hle := many_le Gc h cl fun c hc => ⟨(G.num c hc).2.1.1, hU c hc, (G.num c hc).2.2⟩
      refine ⟨_, _, rfl, rfl, _, rfl, ite2d (fun hlt => absurd (show cntH cs cl h < manyH cl h from hlt) (by (first | lia | omega))) fun _ => ?_⟩
      exact ⟨⟨_, rfl⟩, (s7.trans s8).trans s9⟩
  rintro σ H7 ⟨⟨o, rfl⟩, s7⟩
  have stE : ∀ H', Same H7 H' → Stp p H1 H' := fun H' s' => (st2.same (s26.trans s7)).same s'
  have hhl7 := s7 _ _ hhl6
  refine ⟨_, rfl, hl, _, rfl, .inl (SqL.of hhl7), _, _, rfl, rfl, _, rfl, ite2d (fun hgt => ?_) fun _ => iteF (k _ _ _ _ _ (stE _ (Same.refl _)))⟩
  rw [List.length_map] at hgt
  have hl2' : 2 ≤ (hsI cl).length := by (first | lia | omega)
  have g0 : (hsI cl)[0]? = some (hsI cl)[0] := List.getElem?_eq_getElem (by (first | lia | omega))
  have gn : (hsI cl)[(hsI cl).length - 1]? = some ((hsI cl)[(hsI cl).length - 1]'(by (first | lia | omega))) := List.getElem?_eq_getElem (by (first | lia | omega))
  have m0 := mem_hs (List.mem_of_getElem? g0)
  have mn := mem_hs (List.mem_of_getElem? gn)
  have hne : (hsI cl)[0] ≠ (hsI cl)[(hsI cl).length - 1]'(by (first | lia | omega)) := by
    have nd2 : (hsI cl).Nodup := hs_nodup cl
    intro e
    have := (List.getElem_inj nd2).mp e
    (first | lia | omega)
  refine ⟨_, rfl, _, rfl, _, rfl, hl, _, 0, .int (hsI cl)[0], rfl, rfl, SqL.of hhl7, atI_nat (j := 0) (by rw [List.getElem?_map, g0]; rfl), ?_⟩
  refine ⟨_, rfl, _, rfl, hl, _, -1, .int ((hsI cl)[(hsI cl).length - 1]'(by (first | lia | omega))), rfl, rfl, SqL.of hhl7, atI_last (by rw [List.length_map, List.getElem?_map, gn]; rfl), ?_⟩
  refine ⟨c, a, _, _, cs, cl, rfl, s7 _ _ hc6, Gc, hA6.ext s7.ext, G, hU, m0.1, mn.1, hne, fun H8 s8 => ⟨_, rfl, iteF (k _ _ _ _ _ (stE _ s8))⟩⟩
end
end M05
set_option Elab.async false
set_option linter.all false
set_option maxRecDepth 100000
set_option maxHeartbeats 4000000
namespace M05
open PySem L2 PyProof.Rows Set4
noncomputable def spLaw (K : PySem.W.Frag) : Sp := fun vs H Q _ => ∃ (a : Addr) (ns : List Int), vs = [.ref a] ∧ SqL K H a (ns.map V.int) ∧ ns.length ≤ 63 ∧ ∀ H', Q (.bl true) H'
theorem cutV_mem {xs : List V} {lo hi : Option Int} {x : V} (h : x ∈ cutV xs lo hi) : x ∈ xs := List.mem_of_mem_drop (List.mem_of_mem_take h)
theorem ndS1 : (["_law_holder", "_law_custom_here", "_law_claims_here"] : List Str).Nodup := by decide +kernel
section
variable {P : Program} {w : World} {K : PySem.W.Frag} {mg : Str → Option Value} {base : Heap}
theorem ok_law {f gE gP gM gC gO gS gU gL gD gA gN gI gX gJ : Addr} {fd dE dP dM dC dO dS dU dL dD dA dN dI dX dJ : FuncData} (F : Fun K "law" "law" sLaw f fd) (T : Txt mg) (aE : At P w K mg base 1 "_law_cell" gE dE ["_law_script", "_law_k"] (spCell K)) (aP : At P w K mg base 1 "_law_pen" gP dP ["_law_cell_here"] spPen)
    (aM : At P w K mg base 3 "_law_custom" gM dM ["_law_pen_here"] spCustomL) (aC : At P w K mg base 3 "_law_claims" gC dC ["_law_pen_here", "_law_custom_here", "_law_holders"] spClaimsL) (aO : At P w K mg base 6 "holders_of" gO dO ["claims"] spHoldersOf) (aS : At P w K mg base 8 "share_of" gS dS ["custom", "claims", "holder"] spShareOf)
    (aU : At P w K mg base 1 "_law_sum" gU dU ["_law_fractions"] spSum) (aL : At P w K mg base 1 "_law_like" gL dL ["_law_one", "_law_other"] spLike) (aD : At P w K mg base 1 "_law_draw" gD dD ["_law_pen_here", "_law_bound"] spDraw) (aA : At P w K mg base 6 "laid" gA dA ["claims", "claim"] spLaid) (aN : At P w K mg base 6 "denied" gN dN ["claims", "claim"] spDenied)
    (aI : At P w K mg base 3 "is_custom" gI dI ["thing"] spCustom) (aX : At P w K mg base 7 "count_of" gX dX ["custom", "claims", "holder"] spCountOf) (aJ : At P w K mg base 9 "_law_joins" gJ dJ ["_law_custom_here", "_law_claims_here", "_law_one", "_law_other"] spJoins) : FnOk P w K mg base CX0 10 f fd ["_law_script"] (spLaw K) := by
  refine F.ok scLaw (fun vs H Q E h => ?_) (fun cdv A outer s H vs Q E hr h => ?_)
  · obtain ⟨a, ns, rfl, _⟩ := h; rfl
  · obtain ⟨sa, ns, rfl, hS, hlen, q⟩ := h
    have nd := scLaw.nd
    have hu1 := hu1_of hr
    have r1 : Room 1 _ := hr.mono (by decide)
    have r3 : Room 3 _ := hr.mono (by decide)
    have r6 : Room 6 _ := hr.mono (by decide)
    have r8 : Room 8 _ := hr.mono (by decide)
    obtain ⟨tl, htail, rtail⟩ := law_tail (f := f) T aD aS aI aX aJ cdv A outer s H E hr
    refine ⟨_, pss_cons (ps_for PassesOwn.never rfl (pi_list (pe_op op_cat (pe_lst (pa_k (pe_call aE.ok r1 rfl aE.nm aE.kp aE.bd .nil pass0 (pa_v (pv 0) (pa_c pe_int pa_nil))) pa_nil)) (pe_slice sl_list (pv 0) (po_some pe_int) (po_some pe_int)))) (pg_name (i := 1) nd rfl (Or.inl rfl))
      (pss_cons (ps_set (i := 2) nd rfl (Or.inl rfl) (pe_call aP.ok r1 rfl aP.nm aP.kp aP.bd .nil pass0 (pa_v (pv 1) pa_nil))) <|
       pss_cons (ps_set (i := 3) nd rfl (Or.inr rfl) (pe_call aM.ok r3 rfl aM.nm aM.kp aM.bd .nil pass0 (pa_v (pv 2) pa_nil))) <|
       pss_cons (ps_set (i := 4) nd rfl (Or.inr rfl) (pe_call aC.ok r3 rfl aC.nm aC.kp aC.bd .nil pass0 (pa_v (pv 2) (pa_v (pv 3) (pa_q (pq_lq (lstq (pq_i (pq_i (pq_i (pq_i pq_nil))))) pq_nil)))))) <|
       pss_cons (ps_set (i := 5) nd rfl (Or.inl rfl) (pe_call aO.ok r6 rfl aO.nm aO.kp aO.bd .nil pass0 (pa_v (pv 4) pa_nil))) <|
       pss_cons (ps_setC1 (i := 6) (defScope sLaw).names nLw ["_law_holder"] [("_law_custom_here", 3), ("_law_claims_here", 4)] rfl nd rfl rfl (pi_list (pv 5)) rfl rfl rfl (by decide +kernel) (fun Z => pg_name (i := 0) ndS1 rfl (Or.inl rfl)) (fun Z => pts_nil) (fun Z => pe_call aS.ok r8 rfl aS.nm aS.kp aS.bd .nil pass0 (pa_v (pv 1) (pa_v (pv 2) (pa_v (pv 0) pa_nil))))) <|
       pss_cons (ps_if (pt_not (pt_val (pe_call aL.ok r1 rfl aL.nm aL.kp aL.bd .nil pass0 (pa_k (pe_call aU.ok r1 rfl aU.nm aU.kp aU.bd .nil pass0 (pa_v (pv 6) pa_nil)) (pa_t (pe_tup (pa_c pe_int (pa_c pe_int pa_nil))) pa_nil))))) pss_never pss_nil) <|
       pss_cons (ps_set (i := 7) nd rfl (Or.inl rfl) (pe_tup (pa_k (pe_call aD.ok r1 rfl aD.nm aD.kp aD.bd .nil pass0 (pa_v (pv 2) (pa_c pe_int pa_nil))) (pa_c pe_int (pa_b (pe_op op_add pe_int (pe_call aD.ok r1 rfl aD.nm aD.kp aD.bd .nil pass0 (pa_v (pv 2) (pa_c pe_int pa_nil)))) pa_nil))))) <|
       pss_cons (ps_if (PW.pt (pw_and (pt_cmpR op_lt (pe_callB call_len_seq rfl T.len PySem.boot_len (pa_v (pv 4) pa_nil)) pe_int (nomark _)) (pw_and1 (pt_cmpR (op_neD 1 hu1) (pe_call aN.ok r6 rfl aN.nm aN.kp aN.bd .nil pass0 (pa_k (pe_call aA.ok r6 rfl aA.nm aA.kp aA.bd .nil pass0 (pa_v (pv 4) (pa_v (pv 7) pa_nil))) (pa_v (pv 7) pa_nil))) (pv 4) (nomark _))))) pss_never pss_nil) htail)) <|
      pss_one (ps_ret pe_bl), ?_⟩
    refine ⟨_, rfl, sa, ns, 0, rfl, hS, by decide, fun c0 => ?_⟩
    refine ⟨by show 1 ≤ sizeLine; decide, fun l0 hl0 => ?_⟩
    have s0 := same_upd (o := .lst [.int c0]) hl0
    refine ⟨_, rfl, _, rfl, _, rfl, sa, _, rfl, s0.seq hS, fun l1 hl1 => ?_⟩
    have s1 := same_upd (o := .lst (cutV (ns.map V.int) (some 1) (some 5))) hl1
    have hcl := cutV_length (ns.map V.int) (some 1) (some 5)
    rw [List.length_map] at hcl
    refine ⟨l0, l1, _, _, rfl, rfl, s1 _ _ upd_same, upd_same, by rw [sizeLine_eq]; show 1 + _ ≤ _; (first | lia | omega), fun lc hlc => ?_⟩
    refine ⟨lc, rfl, ⟨_, SqL.of upd_same⟩, ?_⟩
    generalize hHb : upd (upd (upd H l0 (.lst [.int c0])) l1 (.lst (cutV (ns.map V.int) (some 1) (some 5)))) lc (.lst ([.int c0] ++ cutV (ns.map V.int) (some 1) (some 5))) = Hb
    have hlcb : Hb lc = some (.lst ([.int c0] ++ cutV (ns.map V.int) (some 1) (some 5))) := by rw [← hHb]; exact upd_same
    refine for_list (K := K) (a := lc) (xs := [.int c0] ++ cutV (ns.map V.int) (some 1) (some 5)) (fun i σ H' => (∃ o1 o2 o3 o4 o5 o6 o7 o8 o9 o10 o11, σ = [some (.ref sa), o1, o2, o3, o4, o5, o6, o7, o8, o9, o10, o11]) ∧ Same Hb H')
      ⟨⟨_, _, _, _, _, _, _, _, _, _, _, rfl⟩, Same.refl _⟩ (fun i σ H' _ h => SqL.of (h.2 _ _ hlcb)) ?_ ?_
    · rintro i y σ Ht hi ⟨⟨o1, o2, o3, o4, o5, o6, o7, o8, o9, o10, o11, rfl⟩, hs⟩
      obtain ⟨ce, rfl⟩ : ∃ c, y = V.int c := by
        rcases List.mem_append.mp (List.mem_of_getElem? hi) with z | z
        · exact ⟨c0, List.mem_singleton.mp z⟩
        · obtain ⟨c, _, e⟩ := List.mem_map.mp (cutV_mem z)
          exact ⟨c, e.symm⟩
      refine ⟨_, rfl, ce, rfl, fun p H1 hp0 sp pen => ?_⟩
      refine ⟨_, rfl, p, rfl, pen, fun c cs H2 st2 hc Gc h4 => ?_⟩
      refine ⟨_, rfl, _, rfl, by show 4 ≤ sizeLine; decide, fun m1 hm1 => ?_⟩
      have t1 := same_upd (o := .lst [.int 0, .int 1, .int 2, .int 3]) hm1
      have nm1 : m1 ≠ p := (st2.none hm1).2
      have st2' := st2.same t1
      refine ⟨p, c, m1, cs, [0, 1, 2, 3], rfl, st2'.pen, t1 _ _ hc, Gc, nm1, upd_same, ⟨by decide, by decide, by decide⟩, fun a cl H3 st3 hA G hU => ?_⟩
      have st13 : Stp p H1 H3 := st2'.trans st3
      have hc3 : cuAt H3 c cs := st3.keep c _ (st2'.pen.ne (t1 _ _ hc) (by intro z; simp)) (t1 _ _ hc)
      refine ⟨_, rfl, a, cl, rfl, hA, G, fun hl H4 hl0' s4 hl4 => ?_⟩
      rw [hs_map] at hl4
      have nhl : hl ≠ p := (st13.none hl0').2
      have st14 := st13.same s4
      refine ⟨_, rfl, hl, rfl, ⟨_, SqL.of hl4⟩, fun Z sl hsl => ?_⟩
      have nsl : sl ≠ p := (st14.none hsl).2
      refine comp_sh (rest := [some (.ref c), some (.ref a)]) (shr cs cl) hl4 hsl (by have := hs_len cl; (first | lia | omega)) (fun h H' Q' hm hs' hq => ⟨_, rfl, _, rfl, _, rfl, c, a, cs, cl, h, rfl, hs' _ _ (s4 _ _ hc3), Gc, (hA.ext s4.ext).ext hs'.ext, G, hU, (mem_hs hm).1, fun p' H2 s2 hp => hq p' H2 s2 hp⟩) fun σ' H5 ps s5 hsl5 hP5 => ?_
      refine ⟨_, rfl, sl, ps, _, rfl, hsl5, hP5, fun g hg => ?_, fun p6 H6 s6 hp6 => ?_⟩
      · obtain ⟨h, _, rfl⟩ := List.mem_map.mp hg
        exact shr_small Gc G hU h
      refine ⟨by show 2 ≤ sizeLine; decide, fun t6 ht6 => ?_⟩
      have s7 := same_upd (o := .tup [.int 1, .int 1]) ht6
      refine ⟨p6, t6, _, (1, 1), rfl, s7 _ _ hp6, upd_same, .inr ⟨by decide, by decide⟩, .inl ⟨by decide, by decide⟩, _, rfl, ?_⟩
      have hTpos : 0 < cntAll cs cl := by have := (cntH_bounds Gc G hU 0).2.1; (first | lia | omega)
      have e1 : (sumF ((hsI cl).map (shr cs cl)) (0, 1)).1 * ((1, 1) : Int × Int).2 = ((1, 1) : Int × Int).1 * (sumF ((hsI cl).map (shr cs cl)) (0, 1)).2 := by
        have e0 : (hsI cl).map (shr cs cl) = ((hsI cl).map (cntH cs cl)).map fun x => (frTop x (cntAll cs cl), frBot x (cntAll cs cl)) := by rw [List.map_map]; rfl
        rw [e0]
        refine sum_one hTpos (fun x hx => ?_) ?_
        · obtain ⟨h, _, rfl⟩ := List.mem_map.mp hx
          exact (cntH_bounds Gc G hU h).1.1
        · rw [← hold_sum cs fun c hc => (G.num c hc).1]
          unfold hsI
          rw [List.map_map]
          rfl
      rw [decide_eq_true e1]
      refine iteF ?_
      have st17 := ((st14.same s5).same s6).same s7
      have hx7 : ∀ b o, H5 b = some o → (upd H6 t6 (.tup [.int 1, .int 1])) b = some o := fun b o e => s7 _ _ (s6 _ _ e)
      generalize upd H6 t6 (.tup [.int 1, .int 1]) = H7 at s7 st17 hx7 ⊢
      refine ⟨_, rfl, p, 4, rfl, st17.pen, by decide, by decide, fun d1 H8 d10 d11 st8 => ?_⟩
      refine ⟨_, rfl, p, 20, rfl, st8.pen, by decide, by decide, fun d2 H9 d20 d21 st9 => ?_⟩
      refine ⟨_, _, rfl, rfl, by show 3 ≤ sizeLine; decide, fun t9 ht9 => ?_⟩
      have s10 := same_upd (o := .tup [.int d1, .int 5, .int (1 + d2)]) ht9
      have st79 := st8.trans st9
      have st710 := st79.same s10
      have hcl9 : (upd H9 t9 (.tup [.int d1, .int 5, .int (1 + d2)])) t9 = some (tupC (d1, 5, 1 + d2)) := upd_same
      generalize upd H9 t9 (.tup [.int d1, .int 5, .int (1 + d2)]) = H10 at s10 st710 hcl9 ⊢
      have up : ∀ b o, b ≠ p → H5 b = some o → H10 b = some o := fun b o hb e => st710.keep b o hb (hx7 _ _ e)
      have pen5 : PenAt H5 p := (st14.same s5).pen
      have hc5 : cuAt H5 c cs := s5 _ _ (s4 _ _ hc3)
      have hc10 : cuAt H10 c cs := up _ _ (pen5.ne hc5 (by intro z; simp)) hc5
      have hA10 : ClT H10 a cl := ((hA.ext s4.ext).ext s5.ext).ext (Stp.ext pen5 ⟨st710.pen, fun b o hb e => up b o hb e⟩)
      have hl10 := up hl _ nhl (s5 _ _ hl4)
      have hsl10 := up sl _ nsl hsl5
      have hP10 : Paired (fAt H10) ps ((hsI cl).map (shr cs cl)) := Paired.mapP hP5 fun b f e => up b _ (pen5.ne e (by intro z; simp)) e
      have fin : ∀ H', Stp p H10 H' → Same Hb H' := fun H' st b o e => by
        have e0 := hs b o e
        have bp : b ≠ p := ne_of_none e0 hp0
        exact st.keep b o bp (st710.keep b o bp (st17.keep b o bp (sp _ _ e0)))
      have hn5 : ∀ x ∈ cl, key2 x ≠ key2 (d1, 5, 1 + d2) := fun x hx e => by
        have e2 : x.2.1 = 5 := (Prod.mk.inj (show ((x.1, x.2.1) : Int × Int) = (d1, 5) from e)).2
        have := hU x hx
        (first | lia | omega)
      have cont : ∀ De : Ends, (∀ σ H', (∃ o1 o2 o3 o4 o5 o6 o7 o8 o9 o10 o11, σ = [some (.ref sa), o1, o2, o3, o4, o5, o6, o7, o8, o9, o10, o11]) ∧ Same Hb H' → De.nx σ H') → ∀ H11, Same H10 H11 → tl De (σL sa p c a hl sl ce (some (.ref t9)) o8 o9 o10 o11) H11 := fun De hDe H11 s11 => rtail sa p c a hl sl ce (some (.ref t9)) o8 o9 o10 o11 cs cl ps H11
        De (st710.same s11).pen (s11 _ _ hc10) Gc (hA10.ext s11.ext) G hU (s11 _ _ hl10) nhl (s11 _ _ hsl10) nsl (Paired.mapP hP10 fun _ _ e => s11 _ _ e)
        fun o8' o9' o10' o11' H2 stf => hDe _ _ ⟨⟨_, _, _, _, _, _, _, _, _, _, _, rfl⟩, fin _ ⟨stf.pen, fun b o hb e => stf.keep b o hb (s11 _ _ e)⟩⟩
      obtain ⟨bs, ha10, hC10⟩ := id hA10
      have hlb : bs.length = cl.length := Paired.length hC10
      refine ⟨_, rfl, a, _, rfl, .inr (SqT.of ha10), _, _, rfl, rfl, _, rfl, ite2d (fun hlt => ?_) fun _ => iteF (cont _ (fun _ _ h => h) _ (Same.refl _))⟩
      rw [List.length_map, hlb] at hlt
      have hnum : NumOk (d1, 5, 1 + d2) := ⟨⟨d10, by (first | lia | omega)⟩, ⟨by show (0 : Int) ≤ 5; decide, by show (5 : Int) ≤ 5; decide⟩, by show 1 ≤ 1 + d2; (first | lia | omega), by show 1 + d2 ≤ 20; (first | lia | omega)⟩
      refine ⟨_, rfl, _, rfl, a, t9, cl, (d1, 5, 1 + d2), rfl, hA10, G, hcl9, hnum, hn5, by (first | lia | omega), fun b cl' H11 s11 hB G' hp => ?_⟩
      have hcm : (d1, 5, 1 + d2) ∈ cl' := hp.mem_iff.mpr (by simp)
      have hl' : cl'.length = cl.length + 1 := by rw [hp.length_eq, List.length_append]; rfl
      have g1 := G.l1
      refine ⟨_, rfl, b, t9, cl', (d1, 5, 1 + d2), rfl, hB, G', s11 _ _ hcl9, hnum, hcm, by (first | lia | omega), fun b2 H12 s12 hB2 => ?_⟩
      rw [laid_denied G G' hp fun hm => hn5 _ hm rfl] at hB2
      obtain ⟨bs2, hb2, hC2⟩ := hB2
      have s1012 := s11.trans s12
      obtain ⟨ks, k1, k2⟩ := e3_two cl hC2 (hC10.ext s1012.ext)
      refine ⟨_, rfl, b2, a, _, _, ks, rfl, rfl, .inl ⟨hb2, s1012 _ _ ha10⟩, k1, _, rfl, ?_⟩
      rw [k2]
      exact iteF (cont _ (fun _ _ h => h) _ s1012)
    · rintro σ H' _
      exact q H'
end
end M05
set_option Elab.async false
set_option linter.all false
set_option maxRecDepth 100000
set_option maxHeartbeats 4000000
namespace M05
open PySem L2 PyProof.Rows
theorem len1 {us : List Value} (h : us.length = 1) : ∃ a, us = [a] := by
  match us, h with
  | [a], _ => exact ⟨a, rfl⟩
theorem len2 {us : List Value} (h : us.length = 2) : ∃ a b, us = [a, b] := by
  match us, h with
  | [a, b], _ => exact ⟨a, b, rfl⟩
theorem len3 {us : List Value} (h : us.length = 3) : ∃ a b c, us = [a, b, c] := by
  match us, h with
  | [a, b, c], _ => exact ⟨a, b, c, rfl⟩
theorem len4 {us : List Value} (h : us.length = 4) : ∃ a b c d, us = [a, b, c, d] := by
  match us, h with
  | [a, b, c, d], _ => exact ⟨a, b, c, d, rfl⟩
theorem all_mk {l : PySem.W.OpenLaw} {w : World} {K : PySem.W.Frag} {h : Heap} {mg : Str → Option Value} {fa cT fI : Addr} {odI anI : Option Addr} {slI : Array (Option Value)} {ocI kVI dcI pmI cdI ctI : Value} {f0 f1 f2 f3 f4 f5 f6 f7 f8 f9 f10 f11 f12 f13 f14 f15 f16 f17 f18 f19 f20 f21 f22 f23 f24 f25 f26 f27 f28 f29 f30 f31 f32 f33 : Addr} {od0 an0 od1 an1 od2 an2 od3 an3 od4 an4 od5 an5 od6 an6 od7 an7 od8 an8 od9 an9 od10 an10 od11 an11 od12 an12 od13 an13 od14 an14 od15 an15 od16 an16 od17 an17 od18 an18 od19 an19 od20 an20 od21 an21 od22 an22 od23 an23 od24 an24 od25 an25 od26 an26 od27 an27 od28 an28 od29 an29 od30 an30 od31 an31 od32 an32 od33 an33 : Option Addr} {sl0 sl1 sl2 sl3 sl4 sl5 sl6 sl7 sl8 sl9 sl10 sl11 sl12 sl13 sl14 sl15 sl16 sl17 sl18 sl19 sl20 sl21 sl22 sl23 sl24 sl25 sl26 sl27 sl28 sl29 sl30 sl31 sl32 sl33 : Array (Option Value)} {oc0 kV0 dc0 pm0 cd0 ct0 oc1 kV1 dc1 pm1 cd1 ct1 oc2 kV2 dc2 pm2 cd2 ct2 oc3 kV3 dc3 pm3 cd3 ct3 oc4 kV4 dc4 pm4 cd4 ct4 oc5 kV5 dc5 pm5 cd5 ct5 oc6 kV6 dc6 pm6 cd6 ct6 oc7 kV7 dc7 pm7 cd7 ct7 oc8 kV8 dc8 pm8 cd8 ct8 oc9 kV9 dc9 pm9 cd9 ct9 oc10 kV10 dc10 pm10 cd10 ct10 oc11 kV11 dc11 pm11 cd11 ct11 oc12 kV12 dc12 pm12 cd12 ct12 oc13 kV13 dc13 pm13 cd13 ct13 oc14 kV14 dc14 pm14 cd14 ct14 oc15 kV15 dc15 pm15 cd15 ct15 oc16 kV16 dc16 pm16 cd16 ct16 oc17 kV17 dc17 pm17 cd17 ct17 oc18 kV18 dc18 pm18 cd18 ct18 oc19 kV19 dc19 pm19 cd19 ct19 oc20 kV20 dc20 pm20 cd20 ct20 oc21 kV21 dc21 pm21 cd21 ct21 oc22 kV22 dc22 pm22 cd22 ct22 oc23 kV23 dc23 pm23 cd23 ct23 oc24 kV24 dc24 pm24 cd24 ct24 oc25 kV25 dc25 pm25 cd25 ct25 oc26 kV26 dc26 pm26 cd26 ct26 oc27 kV27 dc27 pm27 cd27 ct27 oc28 kV28 dc28 pm28 cd28 ct28 oc29 kV29 dc29 pm29 cd29 ct29 oc30 kV30 dc30 pm30 cd30 ct30 oc31 kV31 dc31 pm31 cd31 ct31 oc32 kV32 dc32 pm32 cd32 ct32 oc33 kV33 dc33 pm33 cd33 ct33 : Value} {t0 t1 t2 t3 t4 : Tok} (X : K.In h) (G : h.Ns mainGlobals mg) (hfa : mg "law" = some (.ref fa))
    (a0 : PySem.W.nsIn K mainGlobals "is_number" = some (some (.ref f0)))
    (l0 : K.lookup f0 = some ⟨oc0, od0, .func (PySem.W.fnOf "is_number" "is_number" (defArgs sNumber) (defBody sNumber) (defScope sNumber) .none kV0 dc0 pm0 an0 cd0 ct0), sl0⟩)
    (c0 : PySem.W.codeIn K cd0 "is_number" = true)
    (k0 : PySem.W.keepIn K (.ref f0) = true)
    (a1 : PySem.W.nsIn K mainGlobals "is_number_within" = some (some (.ref f1)))
    (l1 : K.lookup f1 = some ⟨oc1, od1, .func (PySem.W.fnOf "is_number_within" "is_number_within" (defArgs sWithin) (defBody sWithin) (defScope sWithin) .none kV1 dc1 pm1 an1 cd1 ct1), sl1⟩)
    (c1 : PySem.W.codeIn K cd1 "is_number_within" = true)
    (k1 : PySem.W.keepIn K (.ref f1) = true)
    (a2 : PySem.W.nsIn K mainGlobals "is_tuple_within" = some (some (.ref f2)))
    (l2 : K.lookup f2 = some ⟨oc2, od2, .func (PySem.W.fnOf "is_tuple_within" "is_tuple_within" (defArgs sTuple) (defBody sTuple) (defScope sTuple) .none kV2 dc2 pm2 an2 cd2 ct2), sl2⟩)
    (c2 : PySem.W.codeIn K cd2 "is_tuple_within" = true)
    (k2 : PySem.W.keepIn K (.ref f2) = true)
    (a3 : PySem.W.nsIn K mainGlobals "is_rising" = some (some (.ref f3)))
    (l3 : K.lookup f3 = some ⟨oc3, od3, .func (PySem.W.fnOf "is_rising" "is_rising" (defArgs sRising) (defBody sRising) (defScope sRising) .none kV3 dc3 pm3 an3 cd3 ct3), sl3⟩)
    (c3 : PySem.W.codeIn K cd3 "is_rising" = true)
    (k3 : PySem.W.keepIn K (.ref f3) = true)
    (a4 : PySem.W.nsIn K mainGlobals "is_custom" = some (some (.ref f4)))
    (l4 : K.lookup f4 = some ⟨oc4, od4, .func (PySem.W.fnOf "is_custom" "is_custom" (defArgs sCustom) (defBody sCustom) (defScope sCustom) .none kV4 dc4 pm4 an4 cd4 ct4), sl4⟩)
    (c4 : PySem.W.codeIn K cd4 "is_custom" = true)
    (k4 : PySem.W.keepIn K (.ref f4) = true)
    (a5 : PySem.W.nsIn K mainGlobals "is_claim" = some (some (.ref f5)))
    (l5 : K.lookup f5 = some ⟨oc5, od5, .func (PySem.W.fnOf "is_claim" "is_claim" (defArgs sClaim) (defBody sClaim) (defScope sClaim) .none kV5 dc5 pm5 an5 cd5 ct5), sl5⟩)
    (c5 : PySem.W.codeIn K cd5 "is_claim" = true)
    (k5 : PySem.W.keepIn K (.ref f5) = true)
    (a6 : PySem.W.nsIn K mainGlobals "are_claims" = some (some (.ref f6)))
    (l6 : K.lookup f6 = some ⟨oc6, od6, .func (PySem.W.fnOf "are_claims" "are_claims" (defArgs sClaims) (defBody sClaims) (defScope sClaims) .none kV6 dc6 pm6 an6 cd6 ct6), sl6⟩)
    (c6 : PySem.W.codeIn K cd6 "are_claims" = true)
    (k6 : PySem.W.keepIn K (.ref f6) = true)
    (a7 : PySem.W.nsIn K mainGlobals "check_custom" = some (some (.ref f7)))
    (l7 : K.lookup f7 = some ⟨oc7, od7, .func (PySem.W.fnOf "check_custom" "check_custom" (defArgs sChkCustom) (defBody sChkCustom) (defScope sChkCustom) .none kV7 dc7 pm7 an7 cd7 ct7), sl7⟩)
    (c7 : PySem.W.codeIn K cd7 "check_custom" = true)
    (k7 : PySem.W.keepIn K (.ref f7) = true)
    (a8 : PySem.W.nsIn K mainGlobals "check_claim" = some (some (.ref f8)))
    (l8 : K.lookup f8 = some ⟨oc8, od8, .func (PySem.W.fnOf "check_claim" "check_claim" (defArgs sChkClaim) (defBody sChkClaim) (defScope sChkClaim) .none kV8 dc8 pm8 an8 cd8 ct8), sl8⟩)
    (c8 : PySem.W.codeIn K cd8 "check_claim" = true)
    (k8 : PySem.W.keepIn K (.ref f8) = true)
    (a9 : PySem.W.nsIn K mainGlobals "check_claims" = some (some (.ref f9)))
    (l9 : K.lookup f9 = some ⟨oc9, od9, .func (PySem.W.fnOf "check_claims" "check_claims" (defArgs sChkClaims) (defBody sChkClaims) (defScope sChkClaims) .none kV9 dc9 pm9 an9 cd9 ct9), sl9⟩)
    (c9 : PySem.W.codeIn K cd9 "check_claims" = true)
    (k9 : PySem.W.keepIn K (.ref f9) = true)
    (a10 : PySem.W.nsIn K mainGlobals "stand_under" = some (some (.ref f10)))
    (l10 : K.lookup f10 = some ⟨oc10, od10, .func (PySem.W.fnOf "stand_under" "stand_under" (defArgs sStand) (defBody sStand) (defScope sStand) .none kV10 dc10 pm10 an10 cd10 ct10), sl10⟩)
    (c10 : PySem.W.codeIn K cd10 "stand_under" = true)
    (k10 : PySem.W.keepIn K (.ref f10) = true)
    (a11 : PySem.W.nsIn K mainGlobals "check_claims_under" = some (some (.ref f11)))
    (l11 : K.lookup f11 = some ⟨oc11, od11, .func (PySem.W.fnOf "check_claims_under" "check_claims_under" (defArgs sChkUnder) (defBody sChkUnder) (defScope sChkUnder) .none kV11 dc11 pm11 an11 cd11 ct11), sl11⟩)
    (c11 : PySem.W.codeIn K cd11 "check_claims_under" = true)
    (k11 : PySem.W.keepIn K (.ref f11) = true)
    (a12 : PySem.W.nsIn K mainGlobals "is_holder" = some (some (.ref f12)))
    (l12 : K.lookup f12 = some ⟨oc12, od12, .func (PySem.W.fnOf "is_holder" "is_holder" (defArgs sIsHolder) (defBody sIsHolder) (defScope sIsHolder) .none kV12 dc12 pm12 an12 cd12 ct12), sl12⟩)
    (c12 : PySem.W.codeIn K cd12 "is_holder" = true)
    (k12 : PySem.W.keepIn K (.ref f12) = true)
    (a13 : PySem.W.nsIn K mainGlobals "check_holder" = some (some (.ref f13)))
    (l13 : K.lookup f13 = some ⟨oc13, od13, .func (PySem.W.fnOf "check_holder" "check_holder" (defArgs sChkHolder) (defBody sChkHolder) (defScope sChkHolder) .none kV13 dc13 pm13 an13 cd13 ct13), sl13⟩)
    (c13 : PySem.W.codeIn K cd13 "check_holder" = true)
    (k13 : PySem.W.keepIn K (.ref f13) = true)
    (a14 : PySem.W.nsIn K mainGlobals "holders_of" = some (some (.ref f14)))
    (l14 : K.lookup f14 = some ⟨oc14, od14, .func (PySem.W.fnOf "holders_of" "holders_of" (defArgs sHoldersOf) (defBody sHoldersOf) (defScope sHoldersOf) .none kV14 dc14 pm14 an14 cd14 ct14), sl14⟩)
    (c14 : PySem.W.codeIn K cd14 "holders_of" = true)
    (k14 : PySem.W.keepIn K (.ref f14) = true)
    (a15 : PySem.W.nsIn K mainGlobals "count_together" = some (some (.ref f15)))
    (l15 : K.lookup f15 = some ⟨oc15, od15, .func (PySem.W.fnOf "count_together" "count_together" (defArgs sTogether) (defBody sTogether) (defScope sTogether) .none kV15 dc15 pm15 an15 cd15 ct15), sl15⟩)
    (c15 : PySem.W.codeIn K cd15 "count_together" = true)
    (k15 : PySem.W.keepIn K (.ref f15) = true)
    (a16 : PySem.W.nsIn K mainGlobals "count_of" = some (some (.ref f16)))
    (l16 : K.lookup f16 = some ⟨oc16, od16, .func (PySem.W.fnOf "count_of" "count_of" (defArgs sCountOf) (defBody sCountOf) (defScope sCountOf) .none kV16 dc16 pm16 an16 cd16 ct16), sl16⟩)
    (c16 : PySem.W.codeIn K cd16 "count_of" = true)
    (k16 : PySem.W.keepIn K (.ref f16) = true)
    (a17 : PySem.W.nsIn K mainGlobals "fraction" = some (some (.ref f17)))
    (l17 : K.lookup f17 = some ⟨oc17, od17, .func (PySem.W.fnOf "fraction" "fraction" (defArgs sFraction) (defBody sFraction) (defScope sFraction) .none kV17 dc17 pm17 an17 cd17 ct17), sl17⟩)
    (c17 : PySem.W.codeIn K cd17 "fraction" = true)
    (k17 : PySem.W.keepIn K (.ref f17) = true)
    (a18 : PySem.W.nsIn K mainGlobals "share_of" = some (some (.ref f18)))
    (l18 : K.lookup f18 = some ⟨oc18, od18, .func (PySem.W.fnOf "share_of" "share_of" (defArgs sShareOf) (defBody sShareOf) (defScope sShareOf) .none kV18 dc18 pm18 an18 cd18 ct18), sl18⟩)
    (c18 : PySem.W.codeIn K cd18 "share_of" = true)
    (k18 : PySem.W.keepIn K (.ref f18) = true)
    (a19 : PySem.W.nsIn K mainGlobals "laid" = some (some (.ref f19)))
    (l19 : K.lookup f19 = some ⟨oc19, od19, .func (PySem.W.fnOf "laid" "laid" (defArgs sLaid) (defBody sLaid) (defScope sLaid) .none kV19 dc19 pm19 an19 cd19 ct19), sl19⟩)
    (c19 : PySem.W.codeIn K cd19 "laid" = true)
    (k19 : PySem.W.keepIn K (.ref f19) = true)
    (a20 : PySem.W.nsIn K mainGlobals "denied" = some (some (.ref f20)))
    (l20 : K.lookup f20 = some ⟨oc20, od20, .func (PySem.W.fnOf "denied" "denied" (defArgs sDenied) (defBody sDenied) (defScope sDenied) .none kV20 dc20 pm20 an20 cd20 ct20), sl20⟩)
    (c20 : PySem.W.codeIn K cd20 "denied" = true)
    (k20 : PySem.W.keepIn K (.ref f20) = true)
    (a21 : PySem.W.nsIn K mainGlobals "rights_of" = some (some (.ref f21)))
    (l21 : K.lookup f21 = some ⟨oc21, od21, .func (PySem.W.fnOf "rights_of" "rights_of" (defArgs sRights) (defBody sRights) (defScope sRights) .none kV21 dc21 pm21 an21 cd21 ct21), sl21⟩)
    (c21 : PySem.W.codeIn K cd21 "rights_of" = true)
    (k21 : PySem.W.keepIn K (.ref f21) = true)
    (a22 : PySem.W.nsIn K mainGlobals "joined" = some (some (.ref f22)))
    (l22 : K.lookup f22 = some ⟨oc22, od22, .func (PySem.W.fnOf "joined" "joined" (defArgs sJoined) (defBody sJoined) (defScope sJoined) .none kV22 dc22 pm22 an22 cd22 ct22), sl22⟩)
    (c22 : PySem.W.codeIn K cd22 "joined" = true)
    (k22 : PySem.W.keepIn K (.ref f22) = true)
    (a23 : PySem.W.nsIn K mainGlobals "check_two_holders" = some (some (.ref f23)))
    (l23 : K.lookup f23 = some ⟨oc23, od23, .func (PySem.W.fnOf "check_two_holders" "check_two_holders" (defArgs sTwo) (defBody sTwo) (defScope sTwo) .none kV23 dc23 pm23 an23 cd23 ct23), sl23⟩)
    (c23 : PySem.W.codeIn K cd23 "check_two_holders" = true)
    (k23 : PySem.W.keepIn K (.ref f23) = true)
    (a24 : PySem.W.nsIn K mainGlobals "_law_cell" = some (some (.ref f24)))
    (l24 : K.lookup f24 = some ⟨oc24, od24, .func (PySem.W.fnOf "_law_cell" "_law_cell" (defArgs sCell) (defBody sCell) (defScope sCell) .none kV24 dc24 pm24 an24 cd24 ct24), sl24⟩)
    (c24 : PySem.W.codeIn K cd24 "_law_cell" = true)
    (k24 : PySem.W.keepIn K (.ref f24) = true)
    (a25 : PySem.W.nsIn K mainGlobals "_law_pen" = some (some (.ref f25)))
    (l25 : K.lookup f25 = some ⟨oc25, od25, .func (PySem.W.fnOf "_law_pen" "_law_pen" (defArgs sPen) (defBody sPen) (defScope sPen) .none kV25 dc25 pm25 an25 cd25 ct25), sl25⟩)
    (c25 : PySem.W.codeIn K cd25 "_law_pen" = true)
    (k25 : PySem.W.keepIn K (.ref f25) = true)
    (a26 : PySem.W.nsIn K mainGlobals "_law_draw" = some (some (.ref f26)))
    (l26 : K.lookup f26 = some ⟨oc26, od26, .func (PySem.W.fnOf "_law_draw" "_law_draw" (defArgs sDraw) (defBody sDraw) (defScope sDraw) .none kV26 dc26 pm26 an26 cd26 ct26), sl26⟩)
    (c26 : PySem.W.codeIn K cd26 "_law_draw" = true)
    (k26 : PySem.W.keepIn K (.ref f26) = true)
    (a27 : PySem.W.nsIn K mainGlobals "_law_pick" = some (some (.ref f27)))
    (l27 : K.lookup f27 = some ⟨oc27, od27, .func (PySem.W.fnOf "_law_pick" "_law_pick" (defArgs sPick) (defBody sPick) (defScope sPick) .none kV27 dc27 pm27 an27 cd27 ct27), sl27⟩)
    (c27 : PySem.W.codeIn K cd27 "_law_pick" = true)
    (k27 : PySem.W.keepIn K (.ref f27) = true)
    (a28 : PySem.W.nsIn K mainGlobals "_law_custom" = some (some (.ref f28)))
    (l28 : K.lookup f28 = some ⟨oc28, od28, .func (PySem.W.fnOf "_law_custom" "_law_custom" (defArgs sCustomL) (defBody sCustomL) (defScope sCustomL) .none kV28 dc28 pm28 an28 cd28 ct28), sl28⟩)
    (c28 : PySem.W.codeIn K cd28 "_law_custom" = true)
    (k28 : PySem.W.keepIn K (.ref f28) = true)
    (a29 : PySem.W.nsIn K mainGlobals "_law_claims" = some (some (.ref f29)))
    (l29 : K.lookup f29 = some ⟨oc29, od29, .func (PySem.W.fnOf "_law_claims" "_law_claims" (defArgs sClaimsL) (defBody sClaimsL) (defScope sClaimsL) .none kV29 dc29 pm29 an29 cd29 ct29), sl29⟩)
    (c29 : PySem.W.codeIn K cd29 "_law_claims" = true)
    (k29 : PySem.W.keepIn K (.ref f29) = true)
    (a30 : PySem.W.nsIn K mainGlobals "_law_sum" = some (some (.ref f30)))
    (l30 : K.lookup f30 = some ⟨oc30, od30, .func (PySem.W.fnOf "_law_sum" "_law_sum" (defArgs sSum) (defBody sSum) (defScope sSum) .none kV30 dc30 pm30 an30 cd30 ct30), sl30⟩)
    (c30 : PySem.W.codeIn K cd30 "_law_sum" = true)
    (k30 : PySem.W.keepIn K (.ref f30) = true)
    (a31 : PySem.W.nsIn K mainGlobals "_law_like" = some (some (.ref f31)))
    (l31 : K.lookup f31 = some ⟨oc31, od31, .func (PySem.W.fnOf "_law_like" "_law_like" (defArgs sLike) (defBody sLike) (defScope sLike) .none kV31 dc31 pm31 an31 cd31 ct31), sl31⟩)
    (c31 : PySem.W.codeIn K cd31 "_law_like" = true)
    (k31 : PySem.W.keepIn K (.ref f31) = true)
    (a32 : PySem.W.nsIn K mainGlobals "_law_joins" = some (some (.ref f32)))
    (l32 : K.lookup f32 = some ⟨oc32, od32, .func (PySem.W.fnOf "_law_joins" "_law_joins" (defArgs sJoins) (defBody sJoins) (defScope sJoins) .none kV32 dc32 pm32 an32 cd32 ct32), sl32⟩)
    (c32 : PySem.W.codeIn K cd32 "_law_joins" = true)
    (k32 : PySem.W.keepIn K (.ref f32) = true)
    (a33 : PySem.W.nsIn K mainGlobals "law" = some (some (.ref f33)))
    (l33 : K.lookup f33 = some ⟨oc33, od33, .func (PySem.W.fnOf "law" "law" (defArgs sLaw) (defBody sLaw) (defScope sLaw) .none kV33 dc33 pm33 an33 cd33 ct33), sl33⟩)
    (c33 : PySem.W.codeIn K cd33 "law" = true)
    (k33 : PySem.W.keepIn K (.ref f33) = true)
    (v0 : PySem.W.nsIn K mainGlobals "MOST_SORTS" = some (some (.int 6 t0)))
    (v1 : PySem.W.nsIn K mainGlobals "MOST_COUNTED" = some (some (.int 100 t1)))
    (v2 : PySem.W.nsIn K mainGlobals "MOST_HOLDERS" = some (some (.int 4 t2)))
    (v3 : PySem.W.nsIn K mainGlobals "MOST_RIGHTS" = some (some (.int 20 t3)))
    (v4 : PySem.W.nsIn K mainGlobals "MOST_CLAIMS" = some (some (.int 12 t4)))
    (z0 : PySem.W.nsIn K mainGlobals "isinstance" = some none)
    (z1 : PySem.W.nsIn K mainGlobals "int" = some none)
    (z2 : PySem.W.nsIn K mainGlobals "bool" = some none)
    (z3 : PySem.W.nsIn K mainGlobals "tuple" = some none)
    (z4 : PySem.W.nsIn K mainGlobals "len" = some none)
    (z5 : PySem.W.nsIn K mainGlobals "all" = some none)
    (z6 : PySem.W.nsIn K mainGlobals "any" = some none)
    (z7 : PySem.W.nsIn K mainGlobals "zip" = some none)
    (z8 : PySem.W.nsIn K mainGlobals "range" = some none)
    (z9 : PySem.W.nsIn K mainGlobals "sum" = some none)
    (z10 : PySem.W.nsIn K mainGlobals "max" = some none)
    (z11 : PySem.W.nsIn K mainGlobals "sorted" = some none)
    (e0 : PySem.W.nsIn K mainGlobals "TooMany" = some (some (.ref cT)))
    (e1 : PySem.W.findIn K (.ref cT) "__init__" = some (some (.ref fI)))
    (lI : K.lookup fI = some ⟨ocI, odI, .func (PySem.W.fnOf "__init__" "TooMany.__init__" (defArgs sInit) (defBody sInit) (defScope sInit) .none kVI dcI pmI anI cdI ctI), slI⟩)
    (cI : PySem.W.codeIn K cdI "TooMany.__init__" = true)
    (kI : PySem.W.keepIn K (.ref fI) = true)
    (x0 : excInI K cT bmV "ValueError.__new__" = true)
    (x1 : PySem.W.isFn K (.ref fI) = true)
    (x2 : PySem.W.keepIn K (.ref cT) = true)
    (x3 : PySem.W.exmOne K (.ref cT) (.ref cT) = some true)
    (y1 : PySem.W.findIn K (.ref cT) "__setattr__" = some (some (.builtin "object.__setattr__")))
    (y2 : ((PySem.W.clsIn K cT).any fun cd => overV cd.mro) = true)
    (y3 : PySem.W.hasDictIn K cT = true)
    (y4 : PySem.W.findIn K (.ref cT) "__getattribute__" = some (some (.builtin "BaseException.__getattribute__")))
    (y5 : PySem.W.findIn K (.ref cT) "__getattr__" = some none)
    (y6 : PySem.W.mroIn K cT (.type "BaseException") = some true)
    (n1 : PySem.W.findIn K (.ref cT) "many" = some none)
    (n2 : PySem.W.findIn K (.ref cT) "most" = some none) :
    ∃ fd : FuncData, (∀ (s : Shared) (v : Value), BindsTo s fd ⟨[v], []⟩ [("_law_script", v)]) ∧ ∀ base : Heap, K.In base → base.Ns mainGlobals mg → FnOk l.prog w K mg base CX0 10 fa fd ["_law_script"] (spLaw K) := by
  have e := hfa.symm.trans (PySem.W.mg_of X G a33)
  cases e
  have T : Txt mg := ⟨PySem.W.mg_none_of X G z0, PySem.W.mg_none_of X G z1, PySem.W.mg_none_of X G z2, PySem.W.mg_none_of X G z3, PySem.W.mg_none_of X G z4, PySem.W.mg_none_of X G z5, PySem.W.mg_none_of X G z6, PySem.W.mg_none_of X G z7, PySem.W.mg_none_of X G z8, PySem.W.mg_none_of X G z9, PySem.W.mg_none_of X G z10, PySem.W.mg_none_of X G z11, ⟨_, PySem.W.mg_of X G v0⟩, ⟨_, PySem.W.mg_of X G v1⟩, ⟨_, PySem.W.mg_of X G v2⟩, ⟨_, PySem.W.mg_of X G v3⟩, ⟨_, PySem.W.mg_of X G v4⟩⟩
  have F0 := fun_mk (st := sNumber) l0 c0 k0
  have m0 := PySem.W.mg_of X G a0
  have b0 := F0.binds (ps := ["thing"]) fun _ _ _ _ _ _ us hl => by obtain ⟨u0, rfl⟩ := len1 hl; rfl
  have F1 := fun_mk (st := sWithin) l1 c1 k1
  have m1 := PySem.W.mg_of X G a1
  have b1 := F1.binds (ps := ["thing", "least", "most"]) fun _ _ _ _ _ _ us hl => by obtain ⟨u0, u1, u2, rfl⟩ := len3 hl; rfl
  have F2 := fun_mk (st := sTuple) l2 c2 k2
  have m2 := PySem.W.mg_of X G a2
  have b2 := F2.binds (ps := ["thing", "least", "most"]) fun _ _ _ _ _ _ us hl => by obtain ⟨u0, u1, u2, rfl⟩ := len3 hl; rfl
  have F3 := fun_mk (st := sRising) l3 c3 k3
  have m3 := PySem.W.mg_of X G a3
  have b3 := F3.binds (ps := ["things"]) fun _ _ _ _ _ _ us hl => by obtain ⟨u0, rfl⟩ := len1 hl; rfl
  have F4 := fun_mk (st := sCustom) l4 c4 k4
  have m4 := PySem.W.mg_of X G a4
  have b4 := F4.binds (ps := ["thing"]) fun _ _ _ _ _ _ us hl => by obtain ⟨u0, rfl⟩ := len1 hl; rfl
  have F5 := fun_mk (st := sClaim) l5 c5 k5
  have m5 := PySem.W.mg_of X G a5
  have b5 := F5.binds (ps := ["thing"]) fun _ _ _ _ _ _ us hl => by obtain ⟨u0, rfl⟩ := len1 hl; rfl
  have F6 := fun_mk (st := sClaims) l6 c6 k6
  have m6 := PySem.W.mg_of X G a6
  have b6 := F6.binds (ps := ["thing"]) fun _ _ _ _ _ _ us hl => by obtain ⟨u0, rfl⟩ := len1 hl; rfl
  have F7 := fun_mk (st := sChkCustom) l7 c7 k7
  have m7 := PySem.W.mg_of X G a7
  have b7 := F7.binds (ps := ["custom"]) fun _ _ _ _ _ _ us hl => by obtain ⟨u0, rfl⟩ := len1 hl; rfl
  have F8 := fun_mk (st := sChkClaim) l8 c8 k8
  have m8 := PySem.W.mg_of X G a8
  have b8 := F8.binds (ps := ["claim"]) fun _ _ _ _ _ _ us hl => by obtain ⟨u0, rfl⟩ := len1 hl; rfl
  have F9 := fun_mk (st := sChkClaims) l9 c9 k9
  have m9 := PySem.W.mg_of X G a9
  have b9 := F9.binds (ps := ["claims"]) fun _ _ _ _ _ _ us hl => by obtain ⟨u0, rfl⟩ := len1 hl; rfl
  have F10 := fun_mk (st := sStand) l10 c10 k10
  have m10 := PySem.W.mg_of X G a10
  have b10 := F10.binds (ps := ["custom", "claims"]) fun _ _ _ _ _ _ us hl => by obtain ⟨u0, u1, rfl⟩ := len2 hl; rfl
  have F11 := fun_mk (st := sChkUnder) l11 c11 k11
  have m11 := PySem.W.mg_of X G a11
  have b11 := F11.binds (ps := ["custom", "claims"]) fun _ _ _ _ _ _ us hl => by obtain ⟨u0, u1, rfl⟩ := len2 hl; rfl
  have F12 := fun_mk (st := sIsHolder) l12 c12 k12
  have m12 := PySem.W.mg_of X G a12
  have b12 := F12.binds (ps := ["claims", "thing"]) fun _ _ _ _ _ _ us hl => by obtain ⟨u0, u1, rfl⟩ := len2 hl; rfl
  have F13 := fun_mk (st := sChkHolder) l13 c13 k13
  have m13 := PySem.W.mg_of X G a13
  have b13 := F13.binds (ps := ["claims", "holder"]) fun _ _ _ _ _ _ us hl => by obtain ⟨u0, u1, rfl⟩ := len2 hl; rfl
  have F14 := fun_mk (st := sHoldersOf) l14 c14 k14
  have m14 := PySem.W.mg_of X G a14
  have b14 := F14.binds (ps := ["claims"]) fun _ _ _ _ _ _ us hl => by obtain ⟨u0, rfl⟩ := len1 hl; rfl
  have F15 := fun_mk (st := sTogether) l15 c15 k15
  have m15 := PySem.W.mg_of X G a15
  have b15 := F15.binds (ps := ["custom", "claims"]) fun _ _ _ _ _ _ us hl => by obtain ⟨u0, u1, rfl⟩ := len2 hl; rfl
  have F16 := fun_mk (st := sCountOf) l16 c16 k16
  have m16 := PySem.W.mg_of X G a16
  have b16 := F16.binds (ps := ["custom", "claims", "holder"]) fun _ _ _ _ _ _ us hl => by obtain ⟨u0, u1, u2, rfl⟩ := len3 hl; rfl
  have F17 := fun_mk (st := sFraction) l17 c17 k17
  have m17 := PySem.W.mg_of X G a17
  have b17 := F17.binds (ps := ["top", "bottom"]) fun _ _ _ _ _ _ us hl => by obtain ⟨u0, u1, rfl⟩ := len2 hl; rfl
  have F18 := fun_mk (st := sShareOf) l18 c18 k18
  have m18 := PySem.W.mg_of X G a18
  have b18 := F18.binds (ps := ["custom", "claims", "holder"]) fun _ _ _ _ _ _ us hl => by obtain ⟨u0, u1, u2, rfl⟩ := len3 hl; rfl
  have F19 := fun_mk (st := sLaid) l19 c19 k19
  have m19 := PySem.W.mg_of X G a19
  have b19 := F19.binds (ps := ["claims", "claim"]) fun _ _ _ _ _ _ us hl => by obtain ⟨u0, u1, rfl⟩ := len2 hl; rfl
  have F20 := fun_mk (st := sDenied) l20 c20 k20
  have m20 := PySem.W.mg_of X G a20
  have b20 := F20.binds (ps := ["claims", "claim"]) fun _ _ _ _ _ _ us hl => by obtain ⟨u0, u1, rfl⟩ := len2 hl; rfl
  have F21 := fun_mk (st := sRights) l21 c21 k21
  have m21 := PySem.W.mg_of X G a21
  have b21 := F21.binds (ps := ["claims", "holders", "sort"]) fun _ _ _ _ _ _ us hl => by obtain ⟨u0, u1, u2, rfl⟩ := len3 hl; rfl
  have F22 := fun_mk (st := sJoined) l22 c22 k22
  have m22 := PySem.W.mg_of X G a22
  have b22 := F22.binds (ps := ["claims", "one", "other"]) fun _ _ _ _ _ _ us hl => by obtain ⟨u0, u1, u2, rfl⟩ := len3 hl; rfl
  have F23 := fun_mk (st := sTwo) l23 c23 k23
  have m23 := PySem.W.mg_of X G a23
  have b23 := F23.binds (ps := ["claims", "one", "other"]) fun _ _ _ _ _ _ us hl => by obtain ⟨u0, u1, u2, rfl⟩ := len3 hl; rfl
  have F24 := fun_mk (st := sCell) l24 c24 k24
  have m24 := PySem.W.mg_of X G a24
  have b24 := F24.binds (ps := ["_law_script", "_law_k"]) fun _ _ _ _ _ _ us hl => by obtain ⟨u0, u1, rfl⟩ := len2 hl; rfl
  have F25 := fun_mk (st := sPen) l25 c25 k25
  have m25 := PySem.W.mg_of X G a25
  have b25 := F25.binds (ps := ["_law_cell_here"]) fun _ _ _ _ _ _ us hl => by obtain ⟨u0, rfl⟩ := len1 hl; rfl
  have F26 := fun_mk (st := sDraw) l26 c26 k26
  have m26 := PySem.W.mg_of X G a26
  have b26 := F26.binds (ps := ["_law_pen_here", "_law_bound"]) fun _ _ _ _ _ _ us hl => by obtain ⟨u0, u1, rfl⟩ := len2 hl; rfl
  have F27 := fun_mk (st := sPick) l27 c27 k27
  have m27 := PySem.W.mg_of X G a27
  have b27 := F27.binds (ps := ["_law_pen_here", "_law_things"]) fun _ _ _ _ _ _ us hl => by obtain ⟨u0, u1, rfl⟩ := len2 hl; rfl
  have F28 := fun_mk (st := sCustomL) l28 c28 k28
  have m28 := PySem.W.mg_of X G a28
  have b28 := F28.binds (ps := ["_law_pen_here"]) fun _ _ _ _ _ _ us hl => by obtain ⟨u0, rfl⟩ := len1 hl; rfl
  have F29 := fun_mk (st := sClaimsL) l29 c29 k29
  have m29 := PySem.W.mg_of X G a29
  have b29 := F29.binds (ps := ["_law_pen_here", "_law_custom_here", "_law_holders"]) fun _ _ _ _ _ _ us hl => by obtain ⟨u0, u1, u2, rfl⟩ := len3 hl; rfl
  have F30 := fun_mk (st := sSum) l30 c30 k30
  have m30 := PySem.W.mg_of X G a30
  have b30 := F30.binds (ps := ["_law_fractions"]) fun _ _ _ _ _ _ us hl => by obtain ⟨u0, rfl⟩ := len1 hl; rfl
  have F31 := fun_mk (st := sLike) l31 c31 k31
  have m31 := PySem.W.mg_of X G a31
  have b31 := F31.binds (ps := ["_law_one", "_law_other"]) fun _ _ _ _ _ _ us hl => by obtain ⟨u0, u1, rfl⟩ := len2 hl; rfl
  have F32 := fun_mk (st := sJoins) l32 c32 k32
  have m32 := PySem.W.mg_of X G a32
  have b32 := F32.binds (ps := ["_law_custom_here", "_law_claims_here", "_law_one", "_law_other"]) fun _ _ _ _ _ _ us hl => by obtain ⟨u0, u1, u2, u3, rfl⟩ := len4 hl; rfl
  have F33 := fun_mk (st := sLaw) l33 c33 k33
  have m33 := PySem.W.mg_of X G a33
  have FI := fun_mk (st := sInit) lI cI kI
  have bI := FI.binds (ps := ["self", "many", "most"]) fun _ _ _ _ _ _ us hl => by obtain ⟨u0, u1, u2, rfl⟩ := len3 hl; rfl
  have mT := PySem.W.mg_of X G e0
  have cA : ExcA K cT := ⟨y1, y2, y3, y4, y5, y6⟩
  have M : ExcI K cT fI := ⟨x0, e1, x1, x2⟩
  refine ⟨PySem.W.fnOf "law" "law" (defArgs sLaw) (defBody sLaw) (defScope sLaw) .none kV33 dc33 pm33 an33 cd33 ct33, fun s v => .of_eq rfl, fun base _ _ => ?_⟩
  have gI : FnOk l.prog w K mg base CX0 1 fI _ ["self", "many", "most"] (spInit cT) := ok_init FI cA n1 n2
  have g0 : FnOk l.prog w K mg base CX0 1 f0 _ ["thing"] spNumber := ok_number F0 T
  have g1 : FnOk l.prog w K mg base CX0 2 f1 _ ["thing", "least", "most"] spWithin := ok_within F1 T F0 b0 m0
  have g2 : FnOk l.prog w K mg base CX0 1 f2 _ ["thing", "least", "most"] spTuple := ok_tuple F2 T
  have g3 : FnOk l.prog w K mg base CX0 1 f3 _ ["things"] spRising := ok_rising F3 T
  have g4 : FnOk l.prog w K mg base CX0 3 f4 _ ["thing"] spCustom := ok_custom F4 T ⟨m2, k2, b2, g2⟩ ⟨m1, k1, b1, g1⟩
  have g5 : FnOk l.prog w K mg base CX0 3 f5 _ ["thing"] spClaim := ok_claim F5 T ⟨m2, k2, b2, g2⟩ ⟨m1, k1, b1, g1⟩
  have g6 : FnOk l.prog w K mg base CX0 4 f6 _ ["thing"] spClaims := ok_claims F6 T ⟨m2, k2, b2, g2⟩ ⟨m5, k5, b5, g5⟩ ⟨m3, k3, b3, g3⟩
  have g7 : FnOk l.prog w K mg base CX0 4 f7 _ ["custom"] spChkCustom := ok_chkCustom F7 ⟨m4, k4, b4, g4⟩
  have g8 : FnOk l.prog w K mg base CX0 4 f8 _ ["claim"] spChkClaim := ok_chkClaim F8 ⟨m5, k5, b5, g5⟩
  have g9 : FnOk l.prog w K mg base CX0 5 f9 _ ["claims"] spChkClaims := ok_chkClaims F9 ⟨m6, k6, b6, g6⟩
  have g10 : FnOk l.prog w K mg base CX0 1 f10 _ ["custom", "claims"] spStand := ok_stand F10 T
  have g11 : FnOk l.prog w K mg base CX0 6 f11 _ ["custom", "claims"] spChkUnder := ok_chkUnder F11 ⟨m7, k7, b7, g7⟩ ⟨m9, k9, b9, g9⟩ ⟨m10, k10, b10, g10⟩
  have g12 : FnOk l.prog w K mg base CX0 2 f12 _ ["claims", "thing"] spIsHolder := ok_isHolder F12 T ⟨m0, k0, b0, g0⟩
  have g13 : FnOk l.prog w K mg base CX0 3 f13 _ ["claims", "holder"] spChkHolder := ok_chkHolder F13 ⟨m12, k12, b12, g12⟩
  have g14 : FnOk l.prog w K mg base CX0 6 f14 _ ["claims"] spHoldersOf := ok_holdersOf F14 T ⟨m9, k9, b9, g9⟩ ⟨m12, k12, b12, g12⟩
  have g15 : FnOk l.prog w K mg base CX0 1 f15 _ ["custom", "claims"] spTogether := ok_together F15 T
  have g16 : FnOk l.prog w K mg base CX0 7 f16 _ ["custom", "claims", "holder"] spCountOf := ok_countOf F16 ⟨m11, k11, b11, g11⟩ ⟨m13, k13, b13, g13⟩ ⟨m15, k15, b15, g15⟩
  have g17 : FnOk l.prog w K mg base CX0 1 f17 _ ["top", "bottom"] spFraction := ok_fraction F17 
  have g18 : FnOk l.prog w K mg base CX0 8 f18 _ ["custom", "claims", "holder"] spShareOf := ok_shareOf F18 ⟨m17, k17, b17, g17⟩ ⟨m16, k16, b16, g16⟩ ⟨m15, k15, b15, g15⟩
  have g19 : FnOk l.prog w K mg base CX0 6 f19 _ ["claims", "claim"] spLaid := ok_laid F19 T ⟨m9, k9, b9, g9⟩ ⟨m8, k8, b8, g8⟩
  have g20 : FnOk l.prog w K mg base CX0 6 f20 _ ["claims", "claim"] spDenied := ok_denied F20 T ⟨m9, k9, b9, g9⟩ ⟨m8, k8, b8, g8⟩
  have g21 : FnOk l.prog w K mg base CX0 1 f21 _ ["claims", "holders", "sort"] spRights := ok_rights F21 T
  have g23 : FnOk l.prog w K mg base CX0 4 f23 _ ["claims", "one", "other"] spTwo := ok_two F23 ⟨m13, k13, b13, g13⟩
  have g22 : FnOk l.prog w K mg base (CXD l.prog w) 6 f22 _ ["claims", "one", "other"] (spJoined cT) := ok_joined F22 T ⟨m9, k9, b9, g9⟩ ⟨m23, k23, b23, g23⟩ ⟨m21, k21, b21, g21⟩ mT M bI gI
  have g24 : FnOk l.prog w K mg base CX0 1 f24 _ ["_law_script", "_law_k"] (spCell K) := ok_cell F24 T
  have g25 : FnOk l.prog w K mg base CX0 1 f25 _ ["_law_cell_here"] spPen := ok_pen F25 T
  have g26 : FnOk l.prog w K mg base CX0 1 f26 _ ["_law_pen_here", "_law_bound"] spDraw := ok_draw F26 T
  have g27 : FnOk l.prog w K mg base CX0 2 f27 _ ["_law_pen_here", "_law_things"] spPick := ok_pick F27 T ⟨m26, k26, b26, g26⟩
  have g28 : FnOk l.prog w K mg base CX0 3 f28 _ ["_law_pen_here"] spCustomL := ok_customL F28 T ⟨m26, k26, b26, g26⟩ ⟨m27, k27, b27, g27⟩
  have g29 : FnOk l.prog w K mg base CX0 3 f29 _ ["_law_pen_here", "_law_custom_here", "_law_holders"] spClaimsL := ok_claimsL F29 T ⟨m26, k26, b26, g26⟩ ⟨m27, k27, b27, g27⟩
  have g30 : FnOk l.prog w K mg base CX0 1 f30 _ ["_law_fractions"] spSum := ok_sum F30 
  have g31 : FnOk l.prog w K mg base CX0 1 f31 _ ["_law_one", "_law_other"] spLike := ok_like F31 
  have g32 : FnOk l.prog w K mg base CX0 9 f32 _ ["_law_custom_here", "_law_claims_here", "_law_one", "_law_other"] spJoins := ok_joins F32 m22 k22 b22 g22 ⟨m14, k14, b14, g14⟩ ⟨m18, k18, b18, g18⟩ ⟨m30, k30, b30, g30⟩ ⟨m31, k31, b31, g31⟩ mT x3 cA n1 n2
  exact ok_law F33 T ⟨m24, k24, b24, g24⟩ ⟨m25, k25, b25, g25⟩ ⟨m28, k28, b28, g28⟩ ⟨m29, k29, b29, g29⟩ ⟨m14, k14, b14, g14⟩ ⟨m18, k18, b18, g18⟩ ⟨m30, k30, b30, g30⟩ ⟨m31, k31, b31, g31⟩ ⟨m26, k26, b26, g26⟩ ⟨m19, k19, b19, g19⟩ ⟨m20, k20, b20, g20⟩ ⟨m4, k4, b4, g4⟩ ⟨m16, k16, b16, g16⟩ ⟨m32, k32, b32, g32⟩
theorem walk {l : PySem.W.OpenLaw} {q : Program} {loose : List Str} {XP : (Str → Option Value) → Heap → Prop} {YP : World → Heap → Prop} {d : DefRec} {K : Params → PySem.W.Frag} (hn : l.most = some 63) (hdf : d.params.defaults = [])
    (hY : ∀ (w : World) (h : Heap), YP w h → (K w.params).In h)
    (F : ∀ (w : World) (mg : Str → Option Value) (fa : Addr) (h : Heap), (K w.params).In h → h.Ns mainGlobals mg → mg d.name = some (.ref fa) →
      ∃ fd : FuncData, (∀ (s : Shared) (u : Value), BindsTo s fd ⟨[u], []⟩ [("_law_script", u)]) ∧ ∀ base : Heap, (K w.params).In base → base.Ns mainGlobals mg → FnOk l.prog w (K w.params) mg base CX0 10 fa fd ["_law_script"] (spLaw (K w.params))) :
    PySem.W.WalkO q loose XP YP l.row.toRowW d [] (fun f vs => PySem.call f vs) :=
  L2.walk_of (n := 63) (k := 10) (x := "_law_script") (CX := fun _ => CX0) (sp := fun w => spLaw (K w.params)) hn (by decide) hdf ⟨rfl, by decide, by decide⟩ hY F (fun _ _ a ns hl _ hS => ⟨a, ns, rfl, hS, hl, fun _ => rfl⟩) fun _ _ _ _ _ z => z
end M05
open PySem PySem.W PyProof.Rows
set_option maxRecDepth 100000 in
set_option maxHeartbeats 0 in
theorem PySem.Challenge.cw_meadshares_k05_whole_all_is_shared_holds : PySem.Challenge.rw_meadshares_k05_whole_all_is_shared.Holds := by
  w_on; o_law; k_head; (case hw => w_witness2)
  k_fill
  refine M05.walk (l := PySem.Challenge.rw_meadshares_k05_whole_all_is_shared) rfl rfl (fun w h Y => PySem.W.kIn_of Y) ?F
  case F =>
    intro w mg fa h KX G hmg
    refine' M05.all_mk KX G hmg ?a0 ?l0 ?c0 ?k0 ?a1 ?l1 ?c1 ?k1 ?a2 ?l2 ?c2 ?k2 ?a3 ?l3 ?c3 ?k3 ?a4 ?l4 ?c4 ?k4 ?a5 ?l5 ?c5 ?k5 ?a6 ?l6 ?c6 ?k6 ?a7 ?l7 ?c7 ?k7 ?a8 ?l8 ?c8 ?k8 ?a9 ?l9 ?c9 ?k9 ?a10 ?l10 ?c10 ?k10 ?a11 ?l11 ?c11 ?k11 ?a12 ?l12 ?c12 ?k12 ?a13 ?l13 ?c13 ?k13 ?a14 ?l14 ?c14 ?k14 ?a15 ?l15 ?c15 ?k15 ?a16 ?l16 ?c16 ?k16 ?a17 ?l17 ?c17 ?k17 ?a18 ?l18 ?c18 ?k18 ?a19 ?l19 ?c19 ?k19 ?a20 ?l20 ?c20 ?k20 ?a21 ?l21 ?c21 ?k21 ?a22 ?l22 ?c22 ?k22 ?a23 ?l23 ?c23 ?k23 ?a24 ?l24 ?c24 ?k24 ?a25 ?l25 ?c25 ?k25 ?a26 ?l26 ?c26 ?k26 ?a27 ?l27 ?c27 ?k27 ?a28 ?l28 ?c28 ?k28 ?a29 ?l29 ?c29 ?k29 ?a30 ?l30 ?c30 ?k30 ?a31 ?l31 ?c31 ?k31 ?a32 ?l32 ?c32 ?k32 ?a33 ?l33 ?c33 ?k33 ?v0 ?v1 ?v2 ?v3 ?v4 ?z0 ?z1 ?z2 ?z3 ?z4 ?z5 ?z6 ?z7 ?z8 ?z9 ?z10 ?z11 ?e0 ?e1 ?lI ?cI ?kI ?x0 ?x1 ?x2 ?x3 ?y1 ?y2 ?y3 ?y4 ?y5 ?y6 ?n1 ?n2
    (case a0 => k_is)
    (case l0 => k_is)
    (case c0 => k_is)
    (case k0 => k_is)
    (case a1 => k_is)
    (case l1 => k_is)
    (case c1 => k_is)
    (case k1 => k_is)
    (case a2 => k_is)
    (case l2 => k_is)
    (case c2 => k_is)
    (case k2 => k_is)
    (case a3 => k_is)
    (case l3 => k_is)
    (case c3 => k_is)
    (case k3 => k_is)
    (case a4 => k_is)
    (case l4 => k_is)
    (case c4 => k_is)
    (case k4 => k_is)
    (case a5 => k_is)
    (case l5 => k_is)
    (case c5 => k_is)
    (case k5 => k_is)
    (case a6 => k_is)
    (case l6 => k_is)
    (case c6 => k_is)
    (case k6 => k_is)
    (case a7 => k_is)
    (case l7 => k_is)
    (case c7 => k_is)
    (case k7 => k_is)
    (case a8 => k_is)
    (case l8 => k_is)
    (case c8 => k_is)
    (case k8 => k_is)
    (case a9 => k_is)
    (case l9 => k_is)
    (case c9 => k_is)
    (case k9 => k_is)
    (case a10 => k_is)
    (case l10 => k_is)
    (case c10 => k_is)
    (case k10 => k_is)
    (case a11 => k_is)
    (case l11 => k_is)
    (case c11 => k_is)
    (case k11 => k_is)
    (case a12 => k_is)
    (case l12 => k_is)
    (case c12 => k_is)
    (case k12 => k_is)
    (case a13 => k_is)
    (case l13 => k_is)
    (case c13 => k_is)
    (case k13 => k_is)
    (case a14 => k_is)
    (case l14 => k_is)
    (case c14 => k_is)
    (case k14 => k_is)
    (case a15 => k_is)
    (case l15 => k_is)
    (case c15 => k_is)
    (case k15 => k_is)
    (case a16 => k_is)
    (case l16 => k_is)
    (case c16 => k_is)
    (case k16 => k_is)
    (case a17 => k_is)
    (case l17 => k_is)
    (case c17 => k_is)
    (case k17 => k_is)
    (case a18 => k_is)
    (case l18 => k_is)
    (case c18 => k_is)
    (case k18 => k_is)
    (case a19 => k_is)
    (case l19 => k_is)
    (case c19 => k_is)
    (case k19 => k_is)
    (case a20 => k_is)
    (case l20 => k_is)
    (case c20 => k_is)
    (case k20 => k_is)
    (case a21 => k_is)
    (case l21 => k_is)
    (case c21 => k_is)
    (case k21 => k_is)
    (case a22 => k_is)
    (case l22 => k_is)
    (case c22 => k_is)
    (case k22 => k_is)
    (case a23 => k_is)
    (case l23 => k_is)
    (case c23 => k_is)
    (case k23 => k_is)
    (case a24 => k_is)
    (case l24 => k_is)
    (case c24 => k_is)
    (case k24 => k_is)
    (case a25 => k_is)
    (case l25 => k_is)
    (case c25 => k_is)
    (case k25 => k_is)
    (case a26 => k_is)
    (case l26 => k_is)
    (case c26 => k_is)
    (case k26 => k_is)
    (case a27 => k_is)
    (case l27 => k_is)
    (case c27 => k_is)
    (case k27 => k_is)
    (case a28 => k_is)
    (case l28 => k_is)
    (case c28 => k_is)
    (case k28 => k_is)
    (case a29 => k_is)
    (case l29 => k_is)
    (case c29 => k_is)
    (case k29 => k_is)
    (case a30 => k_is)
    (case l30 => k_is)
    (case c30 => k_is)
    (case k30 => k_is)
    (case a31 => k_is)
    (case l31 => k_is)
    (case c31 => k_is)
    (case k31 => k_is)
    (case a32 => k_is)
    (case l32 => k_is)
    (case c32 => k_is)
    (case k32 => k_is)
    (case a33 => k_is)
    (case l33 => k_is)
    (case c33 => k_is)
    (case k33 => k_is)
    (case v0 => k_is)
    (case v1 => k_is)
    (case v2 => k_is)
    (case v3 => k_is)
    (case v4 => k_is)
    (case z0 => k_is)
    (case z1 => k_is)
    (case z2 => k_is)
    (case z3 => k_is)
    (case z4 => k_is)
    (case z5 => k_is)
    (case z6 => k_is)
    (case z7 => k_is)
    (case z8 => k_is)
    (case z9 => k_is)
    (case z10 => k_is)
    (case z11 => k_is)
    (case e0 => k_is)
    (case e1 => k_is)
    (case lI => k_is)
    (case cI => k_is)
    (case kI => k_is)
    (case x0 => kernel_rfl)
    (case x1 => kernel_rfl)
    (case x2 => k_is)
    (case x3 => kernel_rfl)
    (case y1 => k_is)
    (case y2 => kernel_rfl)
    (case y3 => kernel_rfl)
    (case y4 => k_is)
    (case y5 => k_is)
    (case y6 => k_is)
    (case n1 => k_is)
    (case n2 => k_is)
