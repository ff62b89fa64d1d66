import PyProof.Rows.All
import Wide.All
import OpenK.AllK
import Wide.FinOn
import Lean
import PyProof.EqAt
import PyProof.EqKinds
import PyProof.TupleCall
import KE.LcSums
import KE.KDictOf
import KE.KTryMore
import PyProof.ZipIter
import KE.RegKIsAll
import PySem.Challenge.RW_meadshares_k42_cells_roads_and_worths
set_option Elab.async false
set_option linter.all false
set_option maxRecDepth 100000
/-! THE HAND LAYER, for ints, bools, texts, own classes, LISTS and tuples (index, slices, in, append, pop ..), calls, loops. Paste it whole ahead of your own text; what your proof does not reach may be deleted. -/
namespace L2
open PySem PySem.Spec PyProof.Rows

/-- a key: an int or a str -/
abbrev Key := Sum Int Str
def keyIs : Key → Value → Bool
  | .inl k, v => Value.isInt k v
  | .inr x, v => Value.isStrOf x v
def keyH (w : World) : Key → Int
  | .inl k => hashInt k
  | .inr x => hashStr w x
theorem keyIs_shape : ∀ {k : Key} {v : Value}, keyIs k v = true → (∃ i t, k = Sum.inl i ∧ v = Value.int i t) ∨ (∃ x t, k = Sum.inr x ∧ v = Value.str x t)
  | .inl i, v, h => by
    obtain ⟨t, e⟩ := Value.isInt_shape (k := i) (v := v) h
    exact .inl ⟨i, t, rfl, e⟩
  | .inr x, v, h => by
    obtain ⟨t, e⟩ := Value.isStrOf_shape (x := x) (v := v) h
    exact .inr ⟨x, t, rfl, e⟩
theorem keyIs_int (i : Int) (t : Tok) : keyIs (.inl i) (.int i t) = true := by simp [keyIs, Value.isInt]
theorem keyIs_str (x : Str) (t : Tok) : keyIs (.inr x) (.str x t) = true := by simp [keyIs, Value.isStrOf]
theorem key_ll (a b : Int) : decide ((Sum.inl a : Key) = Sum.inl b) = (a == b) := by
  by_cases e : a = b
  · subst e; simp
  · have h : ¬ (Sum.inl a : Key) = Sum.inl b := fun q => e (Sum.inl.inj q)
    rw [decide_eq_false h]
    exact (beq_eq_false_iff_ne.mpr e).symm
theorem key_rr (a b : Str) : decide ((Sum.inr a : Key) = Sum.inr b) = decide (a = b) := by
  by_cases e : a = b
  · subst e; simp
  · have h : ¬ (Sum.inr a : Key) = Sum.inr b := fun q => e (Sum.inr.inj q)
    rw [decide_eq_false h, decide_eq_false e]
theorem key_lr (a : Int) (b : Str) : decide ((Sum.inl a : Key) = Sum.inr b) = false := decide_eq_false (fun q => nomatch q)
theorem key_rl (a : Str) (b : Int) : decide ((Sum.inr a : Key) = Sum.inl b) = false := decide_eq_false (fun q => nomatch q)

def mixKind (prog : Program) (w : World) : PySem.KeyKind prog w Key where
  is := keyIs
  hash := keyH w
  inj := fun v a b ha hb => by
    rcases keyIs_shape ha with ⟨i, t, rfl, rfl⟩ | ⟨x, t, rfl, rfl⟩
    · rcases keyIs_shape hb with ⟨j, u, rfl, e⟩ | ⟨y, u, rfl, e⟩
      · injection e with e1 _; rw [e1]
      · exact nomatch e
    · rcases keyIs_shape hb with ⟨j, u, rfl, e⟩ | ⟨y, u, rfl, e⟩
      · exact nomatch e
      · injection e with e1 _; rw [e1]
  byValue := fun k v h => by
    rcases keyIs_shape h with ⟨i, t, rfl, rfl⟩ | ⟨x, t, rfl, rfl⟩ <;> rfl
  pyHash := fun hv h => by
    rcases keyIs_shape hv with ⟨i, t, rfl, rfl⟩ | ⟨x, t, rfl, rfl⟩
    · exact wpAny_pyHash_int h
    · exact wpAny_pyHash_str h
  eqBool := fun hu hv h => by
    rcases keyIs_shape hu with ⟨i, t, rfl, rfl⟩ | ⟨x, t, rfl, rfl⟩
    · rcases keyIs_shape hv with ⟨j, u, rfl, rfl⟩ | ⟨y, u, rfl, rfl⟩
      · rw [key_ll] at h; exact wpAny_eqBool_int h
      · rw [key_lr] at h; exact SeqAt.EqAt.int_str i t y u _ _ _ _ h
    · rcases keyIs_shape hv with ⟨j, u, rfl, rfl⟩ | ⟨y, u, rfl, rfl⟩
      · rw [key_rl] at h; exact SeqAt.EqAt.str_int x t j u _ _ _ _ h
      · rw [key_rr] at h; exact wpAny_eqBool_str h
  «strs» := fun k x t v h => by
    rcases keyIs_shape h with ⟨i, u, rfl, e⟩ | ⟨y, u, rfl, e⟩
    · exact nomatch e
    · injection e with e1 _
      subst e1
      cases v <;> rfl

theorem mixKind_is (prog : Program) (w : World) (k : Key) (v : Value) : (mixKind prog w).is k v = keyIs k v := rfl
theorem mixKind_int (prog : Program) (w : World) (i : Int) (t : Tok) : (mixKind prog w).is (.inl i) (.int i t) = true := keyIs_int i t
theorem mixKind_str (prog : Program) (w : World) (x : Str) (t : Tok) : (mixKind prog w).is (.inr x) (.str x t) = true := keyIs_str x t
end L2

namespace L2
open PySem PySem.Spec PyProof.Rows

/-- a value, without the heap -/
inductive V where
  | non | bl (b : Bool) | int (i : Int) | str (x : Str) | byt (b : Array UInt8) | flt (b : UInt64) | ref (a : Addr) | ty (n : String)
  deriving DecidableEq

def RelV : V → Value → Prop
  | .non, u => u = Value.none
  | .bl b, u => u = Value.bool b
  | .int i, u => ∃ t, u = Value.int i t
  | .str x, u => ∃ t, u = Value.str x t
  | .byt b, u => ∃ t, u = Value.bytes b t
  | .flt b, u => ∃ t, u = Value.float b t
  | .ref a, u => u = Value.ref a
  | .ty n, u => u = Value.type n

abbrev Vals : List V → List Value → Prop := Paired RelV
theorem Vals.length {xs : List V} {us : List Value} (r : Vals xs us) : xs.length = us.length := Paired.length r
theorem Vals.get : ∀ {xs : List V} {us : List Value} {i : Nat} {x : V}, Vals xs us → xs[i]? = some x → ∃ u, us[i]? = some u ∧ RelV x u
  | _, _, _, _, .nil, e => by simp at e
  | _, _, 0, _, .cons r _, e => by simp at e; subst e; exact ⟨_, rfl, r⟩
  | _, _, i + 1, x, .cons _ t, e => by
    obtain ⟨u, h1, h2⟩ := Vals.get (i := i) (x := x) t (by simpa using e)
    exact ⟨u, by simpa using h1, h2⟩
theorem Vals.set {x : V} {u : Value} (r : RelV x u) : ∀ {xs : List V} {us : List Value} (i : Nat), Vals xs us → Vals (xs.set i x) (us.set i u)
  | _, _, _, .nil => .nil
  | _, _, 0, .cons _ t => .cons r t
  | _, _, i + 1, .cons q t => .cons q (Vals.set r i t)
theorem Vals.append : ∀ {xs ys : List V} {us ws : List Value}, Vals xs us → Vals ys ws → Vals (xs ++ ys) (us ++ ws)
  | _, _, _, _, .nil, s => s
  | _, _, _, _, .cons r t, s => .cons r (Vals.append t s)
theorem Vals.take : ∀ {xs : List V} {us : List Value} (n : Nat), Vals xs us → Vals (xs.take n) (us.take n)
  | _, _, 0, _ => .nil
  | _, _, _ + 1, .nil => .nil
  | _, _, n + 1, .cons r t => .cons r (Vals.take n t)
theorem Vals.drop : ∀ {xs : List V} {us : List Value} (n : Nat), Vals xs us → Vals (xs.drop n) (us.drop n)
  | _, _, 0, r => r
  | _, _, _ + 1, .nil => .nil
  | _, _, n + 1, .cons _ t => Vals.drop n t
theorem Vals.none_of : ∀ {xs : List V} {us : List Value} {i : Nat}, Vals xs us → xs[i]? = none → us[i]? = none := fun {xs us i} r e => by
  have h1 := r.length
  have h2 : xs.length ≤ i := List.getElem?_eq_none_iff.mp e
  exact List.getElem?_eq_none_iff.mpr (by omega)

def RelO : Option V → Option Value → Prop
  | some v, some u => RelV v u
  | none, none => True
  | _, _ => False
def KV {κ : Type} : List (κ × V) → List (κ × Value) → Prop := Paired fun (p : κ × V) (q : κ × Value) => p.1 = q.1 ∧ RelV p.2 q.2

/-- a key of a dict (00_mix): an int or a text -/
def kV : Key → V
  | .inl i => .int i
  | .inr x => .str x

/-- what stands at a tracked address -/
inductive HO where
  /-- a list -/
  | lst (xs : List V)
  /-- a tuple (never changes) -/
  | tup (xs : List V)
  /-- a dict whose keys are ints and texts; one whose keys are tuples of ints and texts (the empty one is both) -/
  | dK (kvs : List (Key × V)) | dT (kvs : List (List Key × V))
  /-- a set of ints: its members, its size -/
  | set (S : Int → Bool) (n : Nat)
  /-- an instance of the class at C, its dict at dx, its attributes -/
  | ins (C dx : Addr) (fs : List (Str × V))
  /-- the dict of the instance at x -/
  | own (x : Addr)
  /-- the dict of an exception -/
  | xd (fs : List (Str × V))
  /-- a bound method, f of x -/
  | met (f x : Addr)
  /-- a range object lo, lo + 1, .. below hi -/
  | rng (lo hi : Int)
  /-- a thing that is known to the object (the script; a dict while a loop walks it): read, never written while it is so -/
  | frz (o : Obj) (u : HO)
  /-- a code object's table -/
  | tbl (ps : Array Value)
  /-- any other thing, by what is true of its one object (a def of one's own: SetO a S n := HO.ext fun h => ..) -/
  | ext (φ : Heap → Prop)

abbrev Hp := Addr → Option HO
def upd (H : Hp) (a : Addr) (o : HO) : Hp := fun b => if b = a then some o else H b
theorem upd_same {H : Hp} {a : Addr} {o : HO} : upd H a o a = some o := by unfold upd; rw [if_pos rfl]
theorem upd_ne {H : Hp} {a b : Addr} {o : HO} (h : b ≠ a) : upd H a o b = H b := by unfold upd; rw [if_neg h]
theorem upd_upd {H : Hp} {a : Addr} {o u : HO} : upd (upd H a o) a u = upd H a u := by
  funext b; unfold upd; split <;> rfl
/-- two objects of different content stand apart -/
theorem ne_of {H : Hp} {a b : Addr} {o u : HO} (h : H a = some o) (h' : H b = some u) (d : o ≠ u) : a ≠ b := by
  intro e; subst e; rw [h] at h'; exact d (Option.some.inj h')
theorem ne_of_none {H : Hp} {a b : Addr} {o : HO} (h : H a = some o) (h' : H b = none) : a ≠ b := by
  intro e; subst e; rw [h] at h'; cases h'

section
variable (P : Program) (w : World)
def ObjOk (H : Hp) (h : Heap) (a : Addr) : HO → Prop
  | .lst xs => xs.length ≤ sizeLine ∧ ∃ (its : List Value) (n : Nat), Vals xs its ∧ h.get? a = some { cls := .type "list", data := .seq its.toArray n }
  | .tup xs => xs.length ≤ sizeLine ∧ ∃ its : List Value, Vals xs its ∧ IsTup h a its.toArray
  | .dK kvs => kvs.length ≤ sizeLine ∧ (a == sysModules) = false ∧ ∃ vs, KV kvs vs ∧ h.DictOf (mixKind P w) a vs
  | .dT kvs => kvs.length ≤ sizeLine ∧ (a == sysModules) = false ∧ ∃ xs : List (List Key × Addr × Value),
      Paired (fun (p : List Key × V) (q : List Key × Addr × Value) => p.1 = q.1 ∧ H q.2.1 = some (.tup (p.1.map kV)) ∧ RelV p.2 q.2.2) kvs xs ∧
      ∃ o es ep, h.get? a = some o ∧ o.ExactDict ∧ o.data = .dict es ep ∧ es.toList = xs.map (entryOfKey (tupleKind (mixKind P w))) ∧ (xs.map (·.1)).Nodup
  | .set S n => h.SetOf (intKind P w) a S n
  | .ins C dx fs => H dx = some (.own a) ∧ fs.length ≤ 1000 ∧ dx ≠ a ∧ h.get? a = some (PySem.W.instObj C dx) ∧
      ∃ mA, h.Ns1 dx mA ∧ (∀ f, RelO (fs.lookup f) (mA f)) ∧ PySem.Within mA (fs.map (·.1))
  | .own _ => ∃ o, h.get? a = some o
  | .xd fs => ∃ mA, h.Ns1 a mA ∧ ∀ f, RelO (fs.lookup f) (mA f)
  | .rng lo hi => ∃ t u v, h.get? a = some { cls := .type "range", data := .fields #[.int lo t, .int hi u, .int 1 v] }
  | .frz o u => h.get? a = some o ∧ ObjOk H h a u
  | .tbl ps => h.get? a = some { cls := .none, data := .fields ps }
  | .met f x => h.get? a = some (PySem.W.methodObj (.ref f) (.ref x))
  | .ext φ => φ h ∧ (∃ o, h.get? a = some o) ∧ ∀ h1 h2 : Heap, φ h1 → (∀ o, h1.get? a = some o → h2.get? a = some o) → φ h2
/-- the abstract heap is held -/
def HOk (H : Hp) (h : Heap) : Prop := ∀ a o, H a = some o → ObjOk P w H h a o
end

section
variable {P : Program} {w : World} {H H' : Hp} {h h' : Heap} {a : Addr} {o : HO}
theorem ObjOk.lt (x : ObjOk P w H h a o) : a < h.objs.size := by
  cases o with
  | lst xs => obtain ⟨_, _, _, _, e⟩ := x; exact Heap.lt_size e
  | tup xs => obtain ⟨_, _, _, p⟩ := x; exact p.lt
  | dK kvs => obtain ⟨_, _, _, _, o, _, _, e, _⟩ := x; exact Heap.lt_size e
  | dT kvs => obtain ⟨_, _, _, _, o, _, _, e, _⟩ := x; exact Heap.lt_size e
  | set S n => obtain ⟨o, _, _, _, e, _⟩ := x; exact Heap.lt_size e
  | ins C dx fs => obtain ⟨_, _, _, e, _⟩ := x; exact Heap.lt_size e
  | own y => obtain ⟨_, e⟩ := x; exact Heap.lt_size e
  | xd fs => obtain ⟨_, ⟨_, _, _, e, _⟩, _⟩ := x; exact Heap.lt_size e
  | rng lo hi => obtain ⟨_, _, _, e⟩ := x; exact Heap.lt_size e
  | frz ob u => obtain ⟨e, _⟩ := x; exact Heap.lt_size e
  | tbl ps => exact Heap.lt_size (show h.get? a = some _ from x)
  | met f y => exact Heap.lt_size (show h.get? a = some _ from x)
  | ext φ => obtain ⟨_, ⟨_, e⟩, _⟩ := x; exact Heap.lt_size e
theorem Paired.mapP {α β : Type} {F G : α → β → Prop} : ∀ {l₁ : List α} {l₂ : List β}, Paired F l₁ l₂ → (∀ a b, F a b → G a b) → Paired G l₁ l₂
  | _, _, .nil, _ => .nil
  | _, _, .cons r t, f => .cons (f _ _ r) (Paired.mapP t f)
theorem Paired.imp' {α β : Type} {F G : α → β → Prop} (f : ∀ a b, F a b → G a b) {l₁ : List α} {l₂ : List β} (r : Paired F l₁ l₂) : Paired G l₁ l₂ := Paired.mapP r f
/-- what an object's description leans on: its own object, its own dict, the tuples -/
theorem ObjOk.stay (x : ObjOk P w H h a o) (k : ∀ b u, (b = a ∨ H b = some (.own a)) → h.get? b = some u → h'.get? b = some u)
    (ho : ∀ b, H b = some (.own a) → H' b = some (.own a)) (ht : ∀ b xs, H b = some (.tup xs) → H' b = some (.tup xs)) : ObjOk P w H' h' a o := by
  induction o with
  | lst xs => obtain ⟨z, its, n, r, e⟩ := x; exact ⟨z, its, n, r, k _ _ (.inl rfl) e⟩
  | tup xs => obtain ⟨z, its, r, ob, e, c⟩ := x; exact ⟨z, its, r, ob, k _ _ (.inl rfl) e, c⟩
  | dK kvs => obtain ⟨z, y, vs, r, ob, es, ep, e, c⟩ := x; exact ⟨z, y, vs, r, ob, es, ep, k _ _ (.inl rfl) e, c⟩
  | dT kvs =>
    obtain ⟨z, y, xs, r, ob, es, ep, e, c⟩ := x
    exact ⟨z, y, xs, Paired.mapP r fun p q z => ⟨z.1, ht _ _ z.2.1, z.2.2⟩, ob, es, ep, k _ _ (.inl rfl) e, c⟩
  | set S n => obtain ⟨ob, es, ep, t, e, c⟩ := x; exact ⟨ob, es, ep, t, k _ _ (.inl rfl) e, c⟩
  | ins C dx fs =>
    obtain ⟨d, z, ne, e, mA, ⟨od, es, ep, e2, c⟩, r⟩ := x
    exact ⟨ho _ d, z, ne, k _ _ (.inl rfl) e, mA, ⟨od, es, ep, k _ _ (.inr d) e2, c⟩, r⟩
  | own y => obtain ⟨ob, e⟩ := x; exact ⟨ob, k _ _ (.inl rfl) e⟩
  | xd fs => obtain ⟨mA, ⟨od, es, ep, e, c⟩, r⟩ := x; exact ⟨mA, ⟨od, es, ep, k _ _ (.inl rfl) e, c⟩, r⟩
  | rng lo hi => obtain ⟨t, u, v, e⟩ := x; exact ⟨t, u, v, k _ _ (.inl rfl) e⟩
  | frz ob u ih => obtain ⟨e, q⟩ := x; exact ⟨k _ _ (.inl rfl) e, ih q⟩
  | tbl ps =>
    have e : h.get? a = some { cls := .none, data := .fields ps } := x
    show h'.get? a = some { cls := .none, data := .fields ps }
    exact k a _ (.inl rfl) e
  | met f y =>
    have e : h.get? a = some (PySem.W.methodObj (.ref f) (.ref y)) := x
    show h'.get? a = some (PySem.W.methodObj (.ref f) (.ref y))
    exact k a _ (.inl rfl) e
  | ext φ => obtain ⟨p, ⟨o, e⟩, st⟩ := x; exact ⟨st _ _ p fun o q => k _ _ (.inl rfl) q, ⟨o, k _ _ (.inl rfl) e⟩, st⟩
theorem HOk.lt (x : HOk P w H h) (e : H a = some o) : a < h.objs.size := (x a o e).lt
theorem HOk.fresh (x : HOk P w H h) (e : h.objs.size ≤ a) : H a = none := by
  cases q : H a with
  | none => rfl
  | some u => exact absurd (Nat.lt_of_lt_of_le (x.lt q) e) (Nat.lt_irrefl _)
/-- every object of the heap is kept -/
theorem HOk.kept (x : HOk P w H h) (k : ∀ b u, h.get? b = some u → h'.get? b = some u) : HOk P w H h' := fun a o e =>
  (x a o e).stay (fun b u _ q => k b u q) (fun _ q => q) fun _ _ q => q
/-- a new object is laid and tracked -/
theorem HOk.laid (x : HOk P w H h) (k : ∀ b u, h.get? b = some u → h'.get? b = some u) (hp : h.objs.size ≤ a) (new : ObjOk P w (upd H a o) h' a o) : HOk P w (upd H a o) h' := fun b u e => by
  have hn := x.fresh hp
  by_cases hb : b = a
  · subst hb; rw [upd_same] at e; cases e; exact new
  · rw [upd_ne hb] at e
    exact (x b u e).stay (fun c v _ q => k c v q) (fun c q => by rw [upd_ne (ne_of_none q hn)]; exact q) fun c xs q => by rw [upd_ne (ne_of_none q hn)]; exact q
end

/-- what may be read as u: it is u, or a known u -/
def Rd (H : Hp) (a : Addr) (u : HO) : Prop := H a = some u ∨ ∃ o, H a = some (.frz o u)
theorem Rd.of {H : Hp} {a : Addr} {u : HO} (h : H a = some u) : Rd H a u := .inl h
theorem Rd.ok {P : Program} {w : World} {H : Hp} {h : Heap} {a : Addr} {u : HO} (r : Rd H a u) (x : HOk P w H h) : ObjOk P w H h a u := by
  rcases r with r | ⟨o, r⟩
  · exact x a u r
  · obtain ⟨_, q⟩ := x a _ r
    exact q
/-- what may be written -/
def Mut : Option HO → Prop
  | some (.lst _) => True
  | some (.dK _) => True
  | some (.dT _) => True
  | some (.set _ _) => True
  | some (.ins _ _ _) => True
  | some (.ext _) => True
  | _ => False
section
variable {P : Program} {w : World} {H : Hp} {h h' : Heap} {x e : Addr} {o' : HO}
/-- the object at e is changed: x itself, or the dict of the instance x -/
theorem HOk.write (ok : HOk P w H h) (mu : Mut (H x)) (he : e = x ∨ H e = some (.own x)) (k : ∀ b u, b ≠ e → h.get? b = some u → h'.get? b = some u) (heo : ∃ u, h'.get? e = some u)
    (new : ObjOk P w (upd H x o') h' x o') : HOk P w (upd H x o') h' := fun b u q => by
  have nown : ∀ c y, H c = some (.own y) → c ≠ x := fun c y r z => by subst z; rw [r] at mu; exact mu
  have ntup : ∀ c xs, H c = some (.tup xs) → c ≠ x := fun c xs r z => by subst z; rw [r] at mu; exact mu
  by_cases hb : b = x
  · subst hb; rw [upd_same] at q; cases q; exact new
  · rw [upd_ne hb] at q
    by_cases hbe : b = e
    · have q' : H b = some (.own x) := by
        rcases he with z | z
        · exact absurd (hbe.trans z) hb
        · rw [hbe]; exact z
      rw [q] at q'; cases q'
      obtain ⟨v, hv⟩ := heo
      exact ⟨v, by rw [hbe]; exact hv⟩
    · refine (ok b u q).stay (fun c v hc r => k c v ?_ r) (fun c r => by rw [upd_ne (nown c b r)]; exact r) fun c xs r => by rw [upd_ne (ntup c xs r)]; exact r
      rcases hc with rfl | hc
      · exact hbe
      · rintro rfl
        rcases he with z | z
        · exact nown c b hc z
        · rw [hc] at z; cases z; exact hb rfl
end

/-! ### kept unless tracked; of the frames at fs (the callers') the slots may change (an exception that passes writes there); of the records at ex (iterators) nothing is said -/
structure Un (fs ex : List Addr) (H H' : Hp) (h h' : Heap) : Prop where
  keep : ∀ b o, h.get? b = some o → H b = none → b ∉ fs → b ∉ ex → h'.get? b = some o
  slot : ∀ b o, h.get? b = some o → H b = none → b ∈ fs → b ∉ ex → ∃ sl, h'.get? b = some { o with slots := sl }
  free : ∀ b o, h.get? b = some o → H b = none → b ∉ ex → H' b = none
  there : ∀ b o, h.get? b = some o → b ∉ ex → ∃ o', h'.get? b = some o'
  tups : ∀ b xs, H b = some (.tup xs) → H' b = some (.tup xs)
  frzs : ∀ b o u, H b = some (.frz o u) → H' b = some (.frz o u)
  tbls : ∀ b ps, H b = some (.tbl ps) → ∃ more, H' b = some (.tbl (ps ++ more))
section
variable {fs fs' ex ex' : List Addr} {H H1 H2 : Hp} {h h1 h2 h' : Heap} {a x e : Addr} {o : HO}
theorem Un.any (u : Un fs ex H H1 h h1) {b : Addr} {ob : Obj} (q : h.get? b = some ob) (n : H b = none) (hx : b ∉ ex) : ∃ sl, h1.get? b = some { ob with slots := sl } := by
  by_cases hb : b ∈ fs
  · exact u.slot b ob q n hb hx
  · exact ⟨ob.slots, u.keep b ob q n hb hx⟩
theorem Un.trans (a : Un fs ex H H1 h h1) (b : Un fs ex H1 H2 h1 h2) : Un fs ex H H2 h h2 where
  keep := fun c ob q n hc hx => b.keep c ob (a.keep c ob q n hc hx) (a.free c ob q n hx) hc hx
  slot := fun c ob q n hc hx => by
    obtain ⟨sl, e1⟩ := a.slot c ob q n hc hx
    obtain ⟨sl', e2⟩ := b.slot c _ e1 (a.free c ob q n hx) hc hx
    exact ⟨sl', e2⟩
  free := fun c ob q n hx => by
    obtain ⟨o', e1⟩ := a.there c ob q hx
    exact b.free c o' e1 (a.free c ob q n hx) hx
  there := fun c ob q hx => by
    obtain ⟨o', e1⟩ := a.there c ob q hx
    exact b.there c o' e1 hx
  tups := fun c xs q => b.tups c xs (a.tups c xs q)
  frzs := fun c ob xs q => b.frzs c ob xs (a.frzs c ob xs q)
  tbls := fun c ps q => by
    obtain ⟨m1, e1⟩ := a.tbls c ps q
    obtain ⟨m2, e2⟩ := b.tbls c _ e1
    exact ⟨m1 ++ m2, by rw [e2, Array.append_assoc]⟩
theorem Un.kept (k : ∀ b u, h.get? b = some u → h'.get? b = some u) : Un fs ex H H h h' :=
  ⟨fun b ob q _ _ _ => k b ob q, fun b ob q _ _ _ => ⟨ob.slots, k b ob q⟩, fun _ _ _ n _ => n, fun b ob q _ => ⟨ob, k b ob q⟩, fun _ _ q => q, fun _ _ _ q => q, fun _ ps q => ⟨#[], by rw [q]; simp⟩⟩
theorem Un.refl : Un fs ex H H h h := Un.kept fun _ _ q => q
theorem Un.laid (k : ∀ b u, h.get? b = some u → h'.get? b = some u) (hp : h.objs.size ≤ a) (hn : H a = none) : Un fs ex H (upd H a o) h h' where
  keep := fun b u q _ _ _ => k b u q
  slot := fun b u q _ _ _ => ⟨u.slots, k b u q⟩
  free := fun b u q n _ => by rw [upd_ne (Nat.ne_of_lt (Nat.lt_of_lt_of_le (Heap.lt_size q) hp))]; exact n
  there := fun b u q _ => ⟨u, k b u q⟩
  tups := fun b xs q => by rw [upd_ne (ne_of_none q hn)]; exact q
  frzs := fun b u xs q => by rw [upd_ne (ne_of_none q hn)]; exact q
  tbls := fun b ps q => ⟨#[], by rw [upd_ne (ne_of_none q hn), q]; simp⟩
theorem Un.write (mu : Mut (H x)) (he : e = x ∨ H e = some (.own x)) (k : ∀ b u, b ≠ e → h.get? b = some u → h'.get? b = some u) (heo : ∃ u, h'.get? e = some u) : Un fs ex H (upd H x o) h h' := by
  have hx : ∀ b, H b = none → b ≠ x := fun b n z => by subst z; rw [n] at mu; exact mu
  have hb : ∀ b, H b = none → b ≠ e := fun b n z => by
    subst z
    rcases he with r | r
    · exact hx b n r
    · rw [n] at r; cases r
  have hm : ∀ b u, H b = some u → ¬ Mut (some u) → b ≠ x := fun b u q nm z => by subst z; rw [q] at mu; exact nm mu
  refine ⟨fun b u q n _ _ => k b u (hb b n) q, fun b u q n _ _ => ⟨u.slots, k b u (hb b n) q⟩, fun b u q n _ => by rw [upd_ne (hx b n)]; exact n, fun b u q _ => ?_,
    fun b xs q => by rw [upd_ne (hm b _ q fun z => z)]; exact q, fun b u xs q => by rw [upd_ne (hm b _ q fun z => z)]; exact q, fun b ps q => ⟨#[], by rw [upd_ne (hm b _ q fun z => z), q]; simp⟩⟩
  by_cases hbe : b = e
  · subst hbe; exact heo
  · exact ⟨u, k b u hbe q⟩
theorem Un.mono (u : Un fs ex H H1 h h1) (hs : ∀ b ∈ fs, b ∈ fs') (hx : ∀ b ∈ ex, b ∈ ex') : Un fs' ex' H H1 h h1 :=
  ⟨fun b ob q n hb he => u.keep b ob q n (fun z => hb (hs b z)) fun z => he (hx b z), fun _ _ q n _ he => u.any q n fun z => he (hx _ z), fun b ob q n he => u.free b ob q n fun z => he (hx b z), fun b ob q he => u.there b ob q fun z => he (hx b z), u.tups, u.frzs, u.tbls⟩
end

/-! ### the heap without what is tracked -/
def trk (h : Heap) (H : Hp) : List Addr := (List.range h.objs.size).filter fun a => (H a).isSome
def hidT (h : Heap) (H : Hp) : Heap := PySem.W.hideAll h (trk h H)
theorem hidT_size (h : Heap) (H : Hp) : (hidT h H).objs.size = h.objs.size := PySem.W.hideAll_size _ _
theorem hidT_get {h : Heap} {H : Hp} {b : Addr} {o : Obj} (e : h.get? b = some o) (n : H b = none) : (hidT h H).get? b = some o :=
  PySem.W.hideAll_get _ e fun hm => by
    have q : (H b).isSome = true := (List.mem_filter.mp hm).2
    rw [n] at q; simp at q
theorem of_hidT {h : Heap} {H : Hp} {b : Addr} {o : Obj} (e : (hidT h H).get? b = some o) : h.get? b = some o ∧ H b = none := by
  have e' : h.get? b = some o := PySem.W.of_hideAll (trk h H) e
  refine ⟨e', ?_⟩
  cases q : H b with
  | none => rfl
  | some x =>
    have hm : b ∈ trk h H := List.mem_filter.mpr ⟨List.mem_range.mpr (Heap.lt_size e'), by simp [q]⟩
    have z : (hidT h H).get? b = none := PySem.W.hideAll_none (trk h H) hm
    rw [z] at e; cases e

/-! ### OpenK's ledger, filled with every new object but one -/
def allNews (g h : Heap) (L : Addr) : List (Addr × Obj) := (List.range h.objs.size).filterMap fun a => if a = L ∨ (g.get? a).isSome = true then none else (h.get? a).map fun o => (a, o)
theorem mem_allNews {g h : Heap} {L a : Addr} {o : Obj} (h1 : a ≠ L) (h2 : g.get? a = none) (h3 : h.get? a = some o) : (a, o) ∈ allNews g h L :=
  List.mem_filterMap.mpr ⟨a, List.mem_range.mpr (Heap.lt_size h3), by simp [h1, h2, h3]⟩
theorem of_mem_allNews {g h : Heap} {L : Addr} {p : Addr × Obj} (hp : p ∈ allNews g h L) : p.1 ≠ L ∧ g.get? p.1 = none ∧ h.get? p.1 = some p.2 := by
  obtain ⟨b, _, e⟩ := List.mem_filterMap.mp hp
  split at e
  · cases e
  · rename_i hn
    cases q : h.get? b with
    | none => rw [q] at e; simp at e
    | some u =>
      rw [q] at e
      simp only [Option.map_some, Option.some.injEq] at e
      subst e
      refine ⟨fun z => hn (.inl z), ?_, q⟩
      show g.get? b = none
      cases r : g.get? b with
      | none => rfl
      | some v => exact (hn (.inr (by simp [r]))).elim
def rest (g h : Heap) (L d : Addr) : List (Addr × Obj) := (allNews g h L).filter fun p => decide (p.1 ≠ d)
theorem rest_ne {g h : Heap} {L d : Addr} : ∀ p ∈ rest g h L d, p.1 ≠ d := fun p hp => of_decide_eq_true (List.mem_filter.mp hp).2
theorem mem_rest {g h : Heap} {L d a : Addr} {o : Obj} (h1 : a ≠ L) (h2 : g.get? a = none) (h3 : h.get? a = some o) (h4 : a ≠ d) : (a, o) ∈ rest g h L d :=
  List.mem_filter.mpr ⟨mem_allNews h1 h2 h3, decide_eq_true h4⟩
theorem news_all {g h : Heap} {L : Addr} : News g L h (allNews g h L) := fun p hp => let ⟨a, b, c⟩ := of_mem_allNews hp; ⟨c, a, b⟩
theorem news_at {g h : Heap} {L d : Addr} {o : Obj} (h1 : d ≠ L) (h2 : g.get? d = none) (h3 : h.get? d = some o) : News g L h ((d, o) :: rest g h L d) := fun p hp => by
  rcases List.mem_cons.mp hp with rfl | hp
  · exact ⟨h3, h1, h2⟩
  · exact news_all p (List.mem_filter.mp hp).1
/-- behind a rule that changed d alone: all else but the frame is kept -/
theorem kept_of_news {g h h' : Heap} {L d : Addr} {m : Str → Option Value} (k : ∀ b o, g.get? b = some o → h.get? b = some o) (F : Fr g L h' m) (N : News g L h' (rest g h L d)) :
    ∀ b o, b ≠ L → b ≠ d → h.get? b = some o → h'.get? b = some o := fun b o h1 h2 e => by
  cases q : g.get? b with
  | some u =>
    have := k b u q
    rw [e] at this; cases this
    exact F.keep b _ q
  | none => exact (N (b, o) (mem_rest h1 q e h2)).1
end L2

namespace L2
open PySem PySem.Spec PyProof.Rows

/-- the module's facts, over the base: the heap at the law's entry without what is tracked there -/
structure Mod (K : PySem.W.Frag) (mg : Str → Option Value) (base : Heap) : Prop where
  kin : K.In base
  glob : base.Ns mainGlobals mg
  blt : ∃ mb, base.Ns builtinsNs mb ∧ ∀ x : Str, x ≠ "__name__" → mb x = bootBuiltins x
  nolimit : base.NoLimit

/-- the context: a def's body (or a comprehension's block) running. base: fixed through the whole law; s₀, H₀: the entry; outer: the frames whose slots others may change (a def's callers); stack: all frames that run;
   ex: iterators that were made ahead of the entry and are walked here (a comprehension's); fn: the names whose cells were made at the entry (a def: all; a comprehension's block: its own); calm: not within an except suite; pn: pins that every state bears; xe: what is wanted of an exception that leaves the code -/
structure Cx where
  prog : Program
  w : World
  K : PySem.W.Frag
  mg : Str → Option Value
  base : Heap
  A : Around
  N : List Str
  s₀ : Shared
  H₀ : Hp
  env : Env
  outer : List Env
  stack : List Env
  ex : List Addr
  fn : Str → Bool
  calm : Bool
  pn : List (Addr × Obj)
  xe : Value → Shared → Prop
/-- the callers' frames -/
def frs (l : List Env) : List Addr := l.filterMap (·.frame)
abbrev Cx.fs (X : Cx) : List Addr := frs X.outer

def Vis (sc : Scope) (x : Str) : Prop := sc.names.lookup x = some .local ∨ sc.names.lookup x = some .cell ∨ sc.names.lookup x = some .free
def Loc (sc : Scope) (x : Str) : Prop := sc.names.lookup x = some .local ∨ sc.names.lookup x = some .cell
def Look (env : Env) (h : Heap) (m : Str → Option Value) (x : Str) (u : Value) : Prop :=
  (env.kindOf x = some .local ∧ m x = some u) ∨ ((env.kindOf x = some .cell ∨ env.kindOf x = some .free) ∧ ∃ c, env.cells.lookup x = some c ∧ h.IsCell c (some u))

structure Cx.Ok (X : Cx) : Prop where
  mod : Mod X.K X.mg X.base
  kind : X.env.scope.kind = .function
  glob : X.env.globals = mainGlobals
  blt : X.env.builtins = builtinsNs
  above : X.s₀.heap.objs.size ≤ X.env.locals
  inj : ∀ x y c, X.env.cells.lookup x = some c → X.env.cells.lookup y = some c → x = y
  has : ∀ x, (X.env.kindOf x = some .cell ∨ X.env.kindOf x = some .free) → ∃ c, X.env.cells.lookup x = some c
  cab : ∀ x c, X.fn x = true → X.env.cells.lookup x = some c → X.s₀.heap.objs.size ≤ c
  hd : X.calm = true → X.A.handled = none
  frames : X.A.frames = some X.stack
  stk : X.stack = X.outer ∨ (X.stack = X.env :: X.outer ∧ X.env.frame = some X.env.locals)
  exf : ∀ b ∈ X.ex, b ≠ X.env.locals ∧ ∀ x c, X.env.cells.lookup x = some c → c ≠ b
  bs : ∀ b o, X.base.get? b = some o → X.s₀.heap.get? b = some o ∧ X.H₀ b = none
  bsz : X.base.objs.size ≤ X.s₀.heap.objs.size
  noex : ∀ b o, X.base.get? b = some o → b ∉ X.ex
  exfs : ∀ b ∈ X.ex, b ∉ X.fs
  funs : X.s₀.heap.FunFrames X.base X.outer
  frf : ∀ b ∈ X.fs, X.H₀ b = none

structure Inv (X : Cx) (pins : List (Addr × Obj)) (σ : List (Option V)) (H : Hp) (s : Shared) : Prop where
  ok : X.Ok
  os : s.os = X.s₀.os
  bare : AllBare s.gens
  base : Un X.fs X.ex X.H₀ H X.s₀.heap s.heap
  loc : ∃ m, s.heap.Ns X.env.locals m ∧ ∀ (i : Nat) (x : Str) (v : V), X.N[i]? = some x → σ[i]? = some (some v) → Vis X.env.scope x → ∃ u, RelV v u ∧ Look X.env s.heap m x u
  cell : ∀ x c, X.env.cells.lookup x = some c → ∃ v, s.heap.IsCell c v
  free : H X.env.locals = none
  freeC : ∀ x c, X.env.cells.lookup x = some c → H c = none
  pin : ∀ p ∈ X.pn ++ pins, s.heap.get? p.1 = some p.2 ∧ H p.1 = none ∧ p.1 ≠ X.env.locals ∧ p.1 ∉ X.fs ∧ ∀ v, p.2.data ≠ .cell v
  hok : HOk X.prog X.w H s.heap
  len : σ.length = X.N.length

section
variable {X : Cx} {pins : List (Addr × Obj)} {σ : List (Option V)} {H H' : Hp} {s : Shared} {h' : Heap}

theorem Cx.Ok.nofr (ok : X.Ok) {b : Addr} {o : Obj} (e : X.base.get? b = some o) : b ∉ X.fs := fun hb => by
  have := (ok.funs.mem hb).1
  rw [e] at this; cases this
theorem Inv.bs (I : Inv X pins σ H s) : ∀ b o, X.base.get? b = some o → s.heap.get? b = some o ∧ H b = none := fun b o e =>
  ⟨I.base.keep b o (I.ok.bs b o e).1 (I.ok.bs b o e).2 (I.ok.nofr e) (I.ok.noex b o e), I.base.free b o (I.ok.bs b o e).1 (I.ok.bs b o e).2 (I.ok.noex b o e)⟩
theorem Inv.bk (I : Inv X pins σ H s) : ∀ b o, X.base.get? b = some o → s.heap.get? b = some o := fun b o e => (I.bs b o e).1
theorem Inv.mod (I : Inv X pins σ H s) : Mod X.K X.mg X.base := I.ok.mod
theorem Inv.kIn (I : Inv X pins σ H s) : X.K.In s.heap := I.ok.mod.kin.keeps I.bk
theorem Inv.nolimit (I : Inv X pins σ H s) : s.heap.NoLimit := I.ok.mod.nolimit.keeps I.bk
/-- the frame over the base: for OpenK's rules (K.In X.base is I.mod.kin) -/
theorem Inv.fr (I : Inv X pins σ H s) : ∃ m, Fr X.base X.env.locals s.heap m :=
  let ⟨m, hn, _⟩ := I.loc
  ⟨m, hn, I.bk, Nat.le_trans I.ok.bsz I.ok.above⟩
theorem Inv.lt (I : Inv X pins σ H s) : X.env.locals < s.heap.objs.size := let ⟨_, hn, _⟩ := I.loc; hn.lt
theorem Inv.sz (I : Inv X pins σ H s) : X.s₀.heap.objs.size ≤ s.heap.objs.size := Nat.le_trans I.ok.above (Nat.le_of_lt I.lt)
theorem Inv.nofs (I : Inv X pins σ H s) {a : Addr} (h : s.heap.objs.size ≤ a) : a ∉ X.fs := fun hb => by
  obtain ⟨_, o, ho, _⟩ := I.ok.funs.mem hb
  exact absurd (Nat.lt_of_lt_of_le (Heap.lt_size ho) (Nat.le_trans I.sz h)) (Nat.lt_irrefl _)
theorem Inv.cne (I : Inv X pins σ H s) : ∀ x c, X.env.cells.lookup x = some c → c ≠ X.env.locals := fun x c e z => by
  obtain ⟨v, o, ho, hd⟩ := I.cell x c e
  obtain ⟨m, ⟨o', es, ep, ho', hd', _⟩, _⟩ := I.loc
  rw [z, ho'] at ho; cases ho; rw [hd'] at hd; cases hd
theorem Inv.funs (I : Inv X pins σ H s) : s.heap.FunFrames X.base X.outer := by
  have all : ∀ (l : List Env), (∀ b ∈ frs l, b ∈ X.fs) → X.s₀.heap.FunFrames X.base l → s.heap.FunFrames X.base l := by
    intro l
    induction l with
    | nil => intro _ _; trivial
    | cons env r ih =>
      intro hs hl
      obtain ⟨hk, ⟨L, o, hf, hn, ho, hd⟩, hr⟩ := hl
      have hL : L ∈ X.fs := hs L (by unfold frs; rw [List.filterMap_cons, hf]; exact List.mem_cons_self)
      obtain ⟨sl, e⟩ := I.base.slot L o ho (I.ok.frf L hL) hL fun z => I.ok.exfs L z hL
      exact ⟨hk, ⟨L, _, hf, hn, e, hd⟩, ih (fun b hb => hs b (by unfold frs; rw [List.filterMap_cons, hf]; exact List.mem_cons_of_mem _ hb)) hr⟩
  exact all X.outer (fun _ hb => hb) I.ok.funs

/-- the frames that run, for a call -/
theorem Inv.stack (I : Inv X pins σ H s) : s.heap.FunFrames X.base X.stack := by
  rcases I.ok.stk with e | ⟨e, hf⟩
  · rw [e]; exact I.funs
  · rw [e]
    obtain ⟨m, hn, _⟩ := I.loc
    refine .cons (by rw [I.ok.kind]; decide) hf hn ?_ I.funs
    exact Heap.get?_none_of_le (Nat.le_trans I.ok.bsz I.ok.above)
theorem Inv.stkSub (I : Inv X pins σ H s) : ∀ b ∈ frs X.stack, b ∈ X.env.locals :: X.fs := fun b hb => by
  rcases I.ok.stk with e | ⟨e, hf⟩
  · rw [e] at hb; exact List.mem_cons_of_mem _ hb
  · rw [e] at hb
    unfold frs at hb
    rw [List.filterMap_cons, hf] at hb
    exact hb
theorem Inv.stkFree (I : Inv X pins σ H s) : ∀ b ∈ frs X.stack, H b = none := fun b hb => by
  rcases List.mem_cons.mp (I.stkSub b hb) with e | hb
  · rw [e]; exact I.free
  · obtain ⟨_, o, ho, _⟩ := I.ok.funs.mem hb
    exact I.base.free b o ho (I.ok.frf b hb) fun z => I.ok.exfs b z hb

/-- THE STEP: the untracked objects but the frame and the records at ch are kept (the callers' frames up to slots), the frame's map is kept, the new abstract heap is held -/
theorem Inv.step {g' : Array GenState} {t' : Nat} {d' : Drawn} {ch : List Addr} (I : Inv X pins σ H s)
    (hch : ∀ b ∈ ch, (b ∈ X.ex ∨ X.s₀.heap.objs.size ≤ b) ∧ b ≠ X.env.locals ∧ (∀ x c, X.env.cells.lookup x = some c → c ≠ b) ∧ ∀ p ∈ X.pn ++ pins, p.1 ≠ b)
    (keep : ∀ b o, b ≠ X.env.locals → b ∉ X.fs → b ∉ ch → s.heap.get? b = some o → H b = none → h'.get? b = some o)
    (slot : ∀ b o, b ≠ X.env.locals → b ∈ X.fs → b ∉ ch → s.heap.get? b = some o → H b = none → ∃ sl, h'.get? b = some { o with slots := sl }) (free : ∀ b o, b ∉ ch → s.heap.get? b = some o → H b = none → H' b = none)
    (there : ∀ b o, b ∉ ch → s.heap.get? b = some o → ∃ o', h'.get? b = some o')
    (tups : ∀ b xs, H b = some (.tup xs) → H' b = some (.tup xs)) (frzs : ∀ b o u, H b = some (.frz o u) → H' b = some (.frz o u)) (tbls : ∀ b ps, H b = some (.tbl ps) → ∃ more, H' b = some (.tbl (ps ++ more)))
    (ns : ∀ m, s.heap.Ns X.env.locals m → h'.Ns X.env.locals m) (hok : HOk X.prog X.w H' h') (hg : AllBare g') :
    Inv X pins σ H' { s with heap := h', gens := g', drawn := d', toks := t' } := by
  have neL : ∀ b o, X.s₀.heap.get? b = some o → b ≠ X.env.locals := fun b o e => Nat.ne_of_lt (Nat.lt_of_lt_of_le (Heap.lt_size e) I.ok.above)
  have neC : ∀ b o, X.s₀.heap.get? b = some o → b ∉ X.ex → b ∉ ch := fun b o e hx hb => by
    rcases (hch b hb).1 with z | z
    · exact hx z
    · exact absurd (Nat.lt_of_lt_of_le (Heap.lt_size e) z) (Nat.lt_irrefl _)
  have cellK : ∀ x c, X.env.cells.lookup x = some c → ∀ v, s.heap.IsCell c v → h'.IsCell c v := fun x c e v ⟨o, ho, hd⟩ => by
    have nch : c ∉ ch := fun z => (hch c z).2.2.1 x c e rfl
    by_cases hc : c ∈ X.fs
    · obtain ⟨sl, q⟩ := slot c o (I.cne x c e) hc nch ho (I.freeC x c e)
      exact ⟨_, q, hd⟩
    · exact ⟨o, keep c o (I.cne x c e) hc nch ho (I.freeC x c e), hd⟩
  refine ⟨I.ok, I.os, hg, ⟨fun b o e n hb hx => ?_, fun b o e n hb hx => ?_, fun b o e n hx => ?_, fun b o e hx => ?_, fun b xs e => tups b xs (I.base.tups b xs e), fun b o xs e => frzs b o xs (I.base.frzs b o xs e), fun b ps e => ?_⟩, ?_, fun x c e => ?_, ?_, fun x c e => ?_, fun p hp => ?_, hok, I.len⟩
  · exact keep b o (neL b o e) hb (neC b o e hx) (I.base.keep b o e n hb hx) (I.base.free b o e n hx)
  · obtain ⟨sl, e1⟩ := I.base.slot b o e n hb hx
    obtain ⟨sl', e2⟩ := slot b _ (neL b o e) hb (neC b o e hx) e1 (I.base.free b o e n hx)
    exact ⟨sl', e2⟩
  · obtain ⟨o', e1⟩ := I.base.there b o e hx
    exact free b o' (neC b o e hx) e1 (I.base.free b o e n hx)
  · obtain ⟨o', e1⟩ := I.base.there b o e hx
    exact there b o' (neC b o e hx) e1
  · obtain ⟨m1, e1⟩ := I.base.tbls b ps e
    obtain ⟨m2, e2⟩ := tbls b _ e1
    exact ⟨m1 ++ m2, by rw [e2, Array.append_assoc]⟩
  · obtain ⟨m, hn, hl⟩ := I.loc
    refine ⟨m, ns m hn, fun i x v e1 e2 e3 => ?_⟩
    obtain ⟨u, r, l⟩ := hl i x v e1 e2 e3
    refine ⟨u, r, ?_⟩
    rcases l with l | ⟨k, c, e, z⟩
    · exact .inl l
    · exact .inr ⟨k, c, e, cellK x c e _ z⟩
  · obtain ⟨v, z⟩ := I.cell x c e
    exact ⟨v, cellK x c e v z⟩
  · obtain ⟨m, ⟨o, _, _, ho, _⟩, _⟩ := I.loc
    exact free _ o (fun z => (hch _ z).2.1 rfl) ho I.free
  · obtain ⟨v, o, ho, hd⟩ := I.cell x c e
    exact free c o (fun z => (hch c z).2.2.1 x c e rfl) ho (I.freeC x c e)
  · obtain ⟨e, n, ne, nf, d⟩ := I.pin p hp
    have nch : p.1 ∉ ch := fun z => (hch p.1 z).2.2.2 p hp rfl
    exact ⟨keep p.1 p.2 ne nf nch e n, free p.1 p.2 nch e n, ne, nf, d⟩
/-- .. where the frame's own object is kept too -/
theorem Inv.un {t' : Nat} (I : Inv X pins σ H s) (u : Un X.fs [] H H' s.heap h') (hok : HOk X.prog X.w H' h') : Inv X pins σ H' { s with heap := h', toks := t' } := by
  obtain ⟨m, ⟨o, es, ep, ho, r⟩, _⟩ := id I.loc
  obtain ⟨sl, hL⟩ := u.any ho I.free (by simp)
  exact I.step (g' := s.gens) (d' := s.drawn) (ch := []) (fun _ z => nomatch z) (fun b o _ hb _ e n => u.keep b o e n hb (by simp)) (fun b o _ hb _ e n => u.slot b o e n hb (by simp)) (fun b o _ e n => u.free b o e n (by simp)) (fun b o _ e => u.there b o e (by simp)) u.tups u.frzs u.tbls (fun m' hm => by
    obtain ⟨o', es', ep', ho', r'⟩ := hm
    rw [ho] at ho'; cases ho'
    exact ⟨_, es', ep', hL, r'⟩) hok I.bare
/-- behind a call (or a comprehension's block): the slots of this frame may have changed too, the records at ch may have turned -/
theorem Inv.call {g' : Array GenState} {t' : Nat} {d' : Drawn} {ch : List Addr} (I : Inv X pins σ H s) (u : Un (frs X.stack) ch H H' s.heap h') (hok : HOk X.prog X.w H' h') (hg : AllBare g')
    (hch : ∀ b ∈ ch, (b ∈ X.ex ∨ X.s₀.heap.objs.size ≤ b) ∧ b ≠ X.env.locals ∧ (∀ x c, X.env.cells.lookup x = some c → c ≠ b) ∧ ∀ p ∈ X.pn ++ pins, p.1 ≠ b) :
    Inv X pins σ H' { s with heap := h', gens := g', drawn := d', toks := t' } := by
  obtain ⟨m, ⟨o, es, ep, ho, r⟩, _⟩ := id I.loc
  obtain ⟨sl, hL⟩ := u.any ho I.free fun z => (hch _ z).2.1 rfl
  exact I.step (ch := ch) hch (fun b o hL hb hc e n => u.keep b o e n (fun z => (List.mem_cons.mp (I.stkSub b z)).elim hL hb) hc) (fun b o _ _ hc e n => u.any e n hc) (fun b o hc e n => u.free b o e n hc) (fun b o hc e => u.there b o e hc) u.tups u.frzs u.tbls (fun m' hm => by
    obtain ⟨o', es', ep', ho', r'⟩ := hm
    rw [ho] at ho'; cases ho'
    exact ⟨_, es', ep', hL, r'⟩) hok hg
/-- an untracked record of ours (an iterator) has turned -/
theorem Inv.turned {t' : Nat} {it : Addr} (I : Inv X pins σ H s) (k : ∀ b o, b ≠ it → s.heap.get? b = some o → h'.get? b = some o) (hn : H it = none) (hL : it ≠ X.env.locals)
    (h1 : it ∈ X.ex ∨ X.s₀.heap.objs.size ≤ it) (h2 : ∀ x c, X.env.cells.lookup x = some c → c ≠ it) (h3 : ∀ p ∈ X.pn ++ pins, p.1 ≠ it) : Inv X pins σ H { s with heap := h', toks := t' } := by
  have nit : ∀ b u, H b = some u → b ≠ it := fun b u e z => by rw [z, hn] at e; cases e
  refine I.step (g' := s.gens) (d' := s.drawn) (ch := [it]) (fun b hb => ?_) (fun b o _ _ hc e _ => k b o (fun z => hc (by simp [z])) e) (fun b o _ _ hc e _ => ⟨o.slots, k b o (fun z => hc (by simp [z])) e⟩) (fun _ _ _ _ n => n)
    (fun b o hc e => ⟨o, k b o (fun z => hc (by simp [z])) e⟩) (fun _ _ e => e) (fun _ _ _ e => e) (fun b ps e => ⟨#[], by rw [e]; simp⟩) (fun m hm => ?_) (fun b u e => ?_) I.bare
  · have e : b = it := by simpa using hb
    subst e
    exact ⟨h1, hL, h2, h3⟩
  · obtain ⟨o, es, ep, ho, r⟩ := hm
    exact ⟨o, es, ep, k _ o (Ne.symm hL) ho, r⟩
  · refine (I.hok b u e).stay (fun c v hc q => k c v ?_ q) (fun _ q => q) fun _ _ q => q
    rcases hc with z | z
    · rw [z]; exact nit b u e
    · exact nit c _ z
theorem Inv.tok (I : Inv X pins σ H s) (t : Nat) : Inv X pins σ H { s with toks := t } := I.un (h' := s.heap) (t' := t) Un.refl I.hok
/-- all objects kept -/
theorem Inv.kept {t' : Nat} (I : Inv X pins σ H s) (k : ∀ b u, s.heap.get? b = some u → h'.get? b = some u) : Inv X pins σ H { s with heap := h', toks := t' } := I.un (Un.kept k) (I.hok.kept k)
/-- a new object laid and tracked -/
theorem Inv.laid {a : Addr} {o : HO} {t' : Nat} (I : Inv X pins σ H s) (k : ∀ b u, s.heap.get? b = some u → h'.get? b = some u) (hp : s.heap.objs.size ≤ a) (new : ObjOk X.prog X.w (upd H a o) h' a o) :
    Inv X pins σ (upd H a o) { s with heap := h', toks := t' } := I.un (Un.laid k hp (I.hok.fresh hp)) (I.hok.laid k hp new)
/-- an object written -/
theorem Inv.write {x e : Addr} {o : HO} {t' : Nat} (I : Inv X pins σ H s) (mu : Mut (H x)) (he : e = x ∨ H e = some (.own x)) (k : ∀ b u, b ≠ e → s.heap.get? b = some u → h'.get? b = some u) (heo : ∃ u, h'.get? e = some u)
    (new : ObjOk X.prog X.w (upd H x o) h' x o) : Inv X pins σ (upd H x o) { s with heap := h', toks := t' } := I.un (Un.write mu he k heo) (I.hok.write mu he k heo new)
/-- forgetting slots, pins -/
theorem Inv.weak {σ' : List (Option V)} (I : Inv X pins σ H s) (hl : σ'.length = σ.length) (w : ∀ (i : Nat) v, σ'[i]? = some (some v) → σ[i]? = some (some v)) : Inv X pins σ' H s :=
  ⟨I.ok, I.os, I.bare, I.base, let ⟨m, hn, hl'⟩ := I.loc; ⟨m, hn, fun i x v e1 e2 e3 => hl' i x v e1 (w i v e2) e3⟩, I.cell, I.free, I.freeC, I.pin, I.hok, hl.trans I.len⟩
theorem Inv.pins_of {pins' : List (Addr × Obj)} (I : Inv X pins σ H s) (h : ∀ p ∈ pins', s.heap.get? p.1 = some p.2 ∧ H p.1 = none ∧ p.1 ≠ X.env.locals ∧ p.1 ∉ X.fs ∧ ∀ v, p.2.data ≠ .cell v) : Inv X pins' σ H s :=
  ⟨I.ok, I.os, I.bare, I.base, I.loc, I.cell, I.free, I.freeC, fun p hp => (List.mem_append.mp hp).elim (fun z => I.pin p (List.mem_append_left _ z)) (h p), I.hok, I.len⟩

theorem nodup_ix {N : List Str} (hN : N.Nodup) {i j : Nat} {x : Str} (a : N[i]? = some x) (b : N[j]? = some x) : i = j := by
  obtain ⟨h1, e1⟩ := List.getElem?_eq_some_iff.mp a
  obtain ⟨h2, e2⟩ := List.getElem?_eq_some_iff.mp b
  exact (List.getElem_inj hN).mp (e1.trans e2.symm)

/-- a name is stored; what changed -/
theorem store_ok2 {M : Model} {A : Around} {E : Value → Shared → Prop} {i : Nat} {x : Str} {v : V} {u : Value} {Q : Unit → Shared → Prop} (I : Inv X pins σ H s) (hN : X.N.Nodup) (hi : X.N[i]? = some x) (hx : Loc X.env.scope x) (r : RelV v u)
    (h : ∀ s', Inv X pins (σ.set i (some v)) H s' → (∃ a, Heap.SameBut a s.heap s'.heap ∧ (a = X.env.locals ∨ X.env.cells.lookup x = some a)) → Q () s') (hf : X.fn x = true ∨ X.env.scope.names.lookup x = some .local := by first | exact .inl rfl | exact .inr rfl | assumption) : wpAny M A (storeName X.env x u) Q E s := by
  obtain ⟨m, hn, hl⟩ := id I.loc
  have hcls : (X.env.scope.kind == .class || (X.env.scope.kind == .module && X.env.locals != X.env.globals)) = false := by rw [I.ok.kind]; rfl
  have hiσ : i < σ.length := by rw [I.len]; exact (List.getElem?_eq_some_iff.mp hi).1
  have cne := I.cne
  have tracked : ∀ {a : Addr} {h' : Heap}, (∃ o, s.heap.get? a = some o ∧ H a = none) → Heap.SameBut a s.heap h' → HOk X.prog X.w H h' := fun {a h'} ha hs b ob e => by
    obtain ⟨_, _, hfree⟩ := ha
    refine (I.hok b ob e).stay (fun c w' hc q => (hs.2 c ?_).trans q) (fun _ q => q) fun _ _ q => q
    rintro rfl
    rcases hc with rfl | hc
    · rw [hfree] at e; cases e
    · rw [hfree] at hc; cases hc
  rcases hx with hk | hk
  · refine wpAny_storeName_local hk hn (fun h' hn' hs => ?_) hcls
    obtain ⟨oL, _, _, hoL, _⟩ := id hn
    refine h _ ⟨I.ok, I.os, I.bare, ⟨fun b o e n hb hx => ?_, fun b o e n hb hx => ?_, I.base.free, fun b o e hx => ?_, I.base.tups, I.base.frzs, I.base.tbls⟩, ⟨_, hn', fun j y v' e1 e2 e3 => ?_⟩, fun y c e => ?_, I.free, I.freeC, fun p hp => ?_, tracked ⟨oL, hoL, I.free⟩ hs, by simpa using I.len⟩ ⟨_, hs, .inl rfl⟩
    · exact (hs.2 b (Nat.ne_of_lt (Nat.lt_of_lt_of_le (Heap.lt_size e) I.ok.above))).trans (I.base.keep b o e n hb hx)
    · obtain ⟨sl, e1⟩ := I.base.slot b o e n hb hx
      exact ⟨sl, (hs.2 b (Nat.ne_of_lt (Nat.lt_of_lt_of_le (Heap.lt_size e) I.ok.above))).trans e1⟩
    · obtain ⟨o', e1⟩ := I.base.there b o e hx
      exact ⟨o', (hs.2 b (Nat.ne_of_lt (Nat.lt_of_lt_of_le (Heap.lt_size e) I.ok.above))).trans e1⟩
    · by_cases hj : j = i
      · subst hj
        rw [hi] at e1; cases e1
        rw [List.getElem?_set_self hiσ] at e2
        cases e2
        exact ⟨u, r, .inl ⟨hk, by simp⟩⟩
      · rw [List.getElem?_set_ne (Ne.symm hj)] at e2
        obtain ⟨u', r', q⟩ := hl j y v' e1 e2 e3
        refine ⟨u', r', ?_⟩
        rcases q with ⟨k, e⟩ | ⟨k, c, e, z⟩
        · refine .inl ⟨k, ?_⟩
          have : y ≠ x := fun e => hj (nodup_ix hN e1 (e ▸ hi))
          simp [this, e]
        · exact .inr ⟨k, c, e, z.sameBut hs (cne y c e)⟩
    · obtain ⟨w', z⟩ := I.cell y c e
      exact ⟨w', z.sameBut hs (cne y c e)⟩
    · obtain ⟨e, n, ne, nf, d⟩ := I.pin p hp
      exact ⟨(hs.2 p.1 ne).trans e, n, ne, nf, d⟩
  · have hfn : X.fn x = true := by
      rcases hf with z | z
      · exact z
      · rw [z] at hk; cases hk
    obtain ⟨c, hc⟩ := I.ok.has x (.inl hk)
    obtain ⟨w', z⟩ := I.cell x c hc
    refine wpAny_storeName_cell I.ok.kind hk hc z (fun h' hc' hs => ?_)
    obtain ⟨oc, hoc, hocd⟩ := id z
    refine h { s with heap := h' } ⟨I.ok, I.os, I.bare, ⟨fun b o e n hb hx => ?_, fun b o e n hb hx => ?_, I.base.free, fun b o e hx => ?_, I.base.tups, I.base.frzs, I.base.tbls⟩, ⟨m, hn.sameBut hs (Ne.symm (cne x c hc)), fun j y v' e1 e2 e3 => ?_⟩, fun y c' e => ?_, I.free, I.freeC, fun p hp => ?_, tracked ⟨oc, hoc, I.freeC x c hc⟩ hs, by simpa using I.len⟩ ⟨c, hs, .inr hc⟩
    · exact (hs.2 b (Nat.ne_of_lt (Nat.lt_of_lt_of_le (Heap.lt_size e) (I.ok.cab x c hfn hc)))).trans (I.base.keep b o e n hb hx)
    · obtain ⟨sl, e1⟩ := I.base.slot b o e n hb hx
      exact ⟨sl, (hs.2 b (Nat.ne_of_lt (Nat.lt_of_lt_of_le (Heap.lt_size e) (I.ok.cab x c hfn hc)))).trans e1⟩
    · obtain ⟨o', e1⟩ := I.base.there b o e hx
      exact ⟨o', (hs.2 b (Nat.ne_of_lt (Nat.lt_of_lt_of_le (Heap.lt_size e) (I.ok.cab x c hfn hc)))).trans e1⟩
    · by_cases hj : j = i
      · subst hj
        rw [hi] at e1; cases e1
        rw [List.getElem?_set_self hiσ] at e2
        cases e2
        exact ⟨u, r, .inr ⟨.inl hk, c, hc, hc'⟩⟩
      · rw [List.getElem?_set_ne (Ne.symm hj)] at e2
        obtain ⟨u', r', q⟩ := hl j y v' e1 e2 e3
        refine ⟨u', r', ?_⟩
        rcases q with q | ⟨k, c', e, z'⟩
        · exact .inl q
        · refine .inr ⟨k, c', e, z'.sameBut hs ?_⟩
          rintro rfl
          exact hj (nodup_ix hN e1 (I.ok.inj _ _ _ e hc ▸ hi))
    · by_cases hcc : c' = c
      · subst hcc; exact ⟨_, hc'⟩
      · obtain ⟨w2, z2⟩ := I.cell y c' e
        exact ⟨w2, z2.sameBut hs hcc⟩
    · obtain ⟨e, n, ne, nf, d⟩ := I.pin p hp
      refine ⟨(hs.2 p.1 ?_).trans e, n, ne, nf, d⟩
      intro q
      rw [q, hoc] at e
      have q' : oc = p.2 := Option.some.inj e
      exact d w' (by rw [← q']; exact hocd)
theorem store_ok {M : Model} {A : Around} {E : Value → Shared → Prop} {i : Nat} {x : Str} {v : V} {u : Value} {Q : Unit → Shared → Prop} (I : Inv X pins σ H s) (hN : X.N.Nodup) (hi : X.N[i]? = some x) (hx : Loc X.env.scope x) (r : RelV v u)
    (h : ∀ s', Inv X pins (σ.set i (some v)) H s' → Q () s') (hf : X.fn x = true ∨ X.env.scope.names.lookup x = some .local := by first | exact .inl rfl | exact .inr rfl | assumption) : wpAny M A (storeName X.env x u) Q E s :=
  store_ok2 I hN hi hx r (fun s' I' _ => h s' I') hf
/-- behind a call or a block, the state as it is -/
theorem Inv.call' {s' : Shared} {ch : List Addr} (I : Inv X pins σ H s) (ho : s'.os = s.os) (u : Un (frs X.stack) ch H H' s.heap s'.heap) (hok : HOk X.prog X.w H' s'.heap) (hg : AllBare s'.gens)
    (hch : ∀ b ∈ ch, (b ∈ X.ex ∨ X.s₀.heap.objs.size ≤ b) ∧ b ≠ X.env.locals ∧ (∀ x c, X.env.cells.lookup x = some c → c ≠ b) ∧ ∀ p ∈ X.pn ++ pins, p.1 ≠ b) : Inv X pins σ H' s' := by
  obtain ⟨h', g', d', t', o'⟩ := s'
  have e : o' = s.os := ho
  subst e
  exact I.call (g' := g') (t' := t') (d' := d') u hok hg hch
end

/-! ### the judgements -/
/-- an exception: its class, its own dict's address (where it has one), the abstract heap behind it -/
abbrev XK := Value → Option Addr → Hp → Prop
abbrev St := List (Option V)
abbrev VK := V → Hp → Prop
/-- an expression's reading; a test's; an argument list's -/
abbrev TE := St → Hp → VK → Prop
abbrev TT := St → Hp → (Bool → Hp → Prop) → Prop
abbrev TA := St → Hp → (List V → Hp → Prop) → Prop
/-- what is wanted behind a statement -/
structure Ends where
  nx : St → Hp → Prop
  rt : VK
  bk : St → Hp → Prop := fun _ _ => False
  ct : St → Hp → Prop := fun _ _ => False
abbrev TS := Ends → St → Hp → Prop

def EP (X : Cx) (pins : List (Addr × Obj)) (σ : St) (Q : VK) (u : Value) (s' : Shared) : Prop := ∃ v H', Inv X pins σ H' s' ∧ RelV v u ∧ Q v H'
def TP (X : Cx) (pins : List (Addr × Obj)) (σ : St) (Q : Bool → Hp → Prop) (b : Bool) (s' : Shared) : Prop := ∃ H', Inv X pins σ H' s' ∧ Q b H'
def AP (X : Cx) (pins : List (Addr × Obj)) (σ : St) (Q : List V → Hp → Prop) (us : List Value) (s' : Shared) : Prop := ∃ vs H', Inv X pins σ H' s' ∧ Vals vs us ∧ Q vs H'
def SP (X : Cx) (pins : List (Addr × Obj)) (D : Ends) (f : Flow) (s' : Shared) : Prop :=
  match f with
  | .next => ∃ σ' H', Inv X pins σ' H' s' ∧ D.nx σ' H'
  | .brk => ∃ σ' H', Inv X pins σ' H' s' ∧ D.bk σ' H'
  | .cont => ∃ σ' H', Inv X pins σ' H' s' ∧ D.ct σ' H'
  | .ret u => ∃ v σ' H', Inv X pins σ' H' s' ∧ RelV v u ∧ D.rt v H'

def PE (X : Cx) (e : Expr) (t : TE) : Prop :=
  ∀ (pins : List (Addr × Obj)) (s : Shared) (σ : St) (H : Hp) (Q : VK), Inv X pins σ H s → t σ H Q → wpAny (model X.prog X.w) X.A (eval e X.env) (EP X pins σ Q) X.xe s
def PT (X : Cx) (e : Expr) (t : TT) : Prop :=
  ∀ (pins : List (Addr × Obj)) (s : Shared) (σ : St) (H : Hp) (Q : Bool → Hp → Prop), Inv X pins σ H s → t σ H Q → wpAny (model X.prog X.w) X.A (isTrue e X.env (eval e X.env)) (TP X pins σ Q) X.xe s
/-- a test whatever its 'whole' is (and, or) -/
def PW (X : Cx) (e : Expr) (t : TT) : Prop :=
  ∀ (whole : Sem Value) (pins : List (Addr × Obj)) (s : Shared) (σ : St) (H : Hp) (Q : Bool → Hp → Prop), Inv X pins σ H s → t σ H Q → wpAny (model X.prog X.w) X.A (isTrue e X.env whole) (TP X pins σ Q) X.xe s
theorem PW.pt {X : Cx} {e : Expr} {t : TT} (h : PW X e t) : PT X e t := h _
/-- an argument list (no star), from the left -/
def PA (X : Cx) (es : List Expr) (t : TA) : Prop :=
  ∀ (pos : Pos) (pins : List (Addr × Obj)) (s : Shared) (σ : St) (H : Hp) (Q : List V → Hp → Prop), Inv X pins σ H s → t σ H Q → wpAny (model X.prog X.w) X.A (spliced (backTo pos (starEach es X.env))) (AP X pins σ Q) X.xe s
def PS (X : Cx) (st : Stmt) (t : TS) : Prop :=
  ∀ (pins : List (Addr × Obj)) (s : Shared) (σ : St) (H : Hp) (D : Ends), Inv X pins σ H s → t D σ H → wpAny (model X.prog X.w) X.A (exec st X.env) (SP X pins D) X.xe s
def PSs (X : Cx) (st : List Stmt) (t : TS) : Prop :=
  ∀ (pins : List (Addr × Obj)) (s : Shared) (σ : St) (H : Hp) (D : Ends), Inv X pins σ H s → t D σ H → wpAny (model X.prog X.w) X.A (execs st X.env) (SP X pins D) X.xe s
/-- weaken the end -/
theorem thn {α : Type} {t : Sem α} {Q Q' : α → Shared → Prop} {M : Model} {A : Around} {E : Value → Shared → Prop} {s : Shared} (h : wpAny M A t Q E s) (hQ : ∀ a s, Q a s → Q' a s) : wpAny M A t Q' E s := wpAny_mono h hQ fun _ _ x => x
end L2

namespace L2
open PySem PySem.Spec PyProof.Rows
section
variable {X : Cx}

/-- two expressions in a row -/
theorem bin {a b : Expr} {ta tb : TE} (ha : PE X a ta) (hb : PE X b tb) {pins : List (Addr × Obj)} {s : Shared} {σ : St} {H : Hp} {R : V → V → Hp → Prop} (I : Inv X pins σ H s) (h : ta σ H fun x H1 => tb σ H1 fun y H2 => R x y H2)
    {α : Type} {Q : α → Shared → Prop} {f : Value → Value → Sem α}
    (hf : ∀ v u s2 x y H2, Inv X pins σ H2 s2 → RelV x v → RelV y u → R x y H2 → wpAny (model X.prog X.w) X.A (f v u) Q X.xe s2) :
    wpAny (model X.prog X.w) X.A (eval a X.env) (fun v s₁ => wpAny (model X.prog X.w) X.A (eval b X.env) (fun u s₂ => wpAny (model X.prog X.w) X.A (f v u) Q X.xe s₂) X.xe s₁) X.xe s := by
  refine thn (ha pins s σ H _ I h) fun v s1 ⟨x, H1, I1, r1, q1⟩ => ?_
  refine thn (hb pins s1 σ H1 _ I1 q1) fun u s2 ⟨y, H2, I2, r2, q2⟩ => ?_
  exact hf v u s2 x y H2 I2 r1 r2 q2

/-! ### names and constants -/
def tVar (i : Nat) : TE := fun σ H Q => ∃ v, σ[i]? = some (some v) ∧ Q v H
def tC (v : V) : TE := fun _ H Q => Q v H
theorem pe_var {i : Nat} {x : Str} {pos : Pos} (hN : X.N[i]? = some x) (hv : Vis X.env.scope x) (hd : (x == ("__debug__" : Str)) = false := by decide) (hcd : (x == ("__classdict__" : Str)) = false := by decide) : PE X (.Name x pos) (tVar i) := by
  intro pins s σ H Q I h
  obtain ⟨v, e, h⟩ := h
  obtain ⟨m, hn, hl⟩ := I.loc
  obtain ⟨u, r, l⟩ := hl i x v hN e hv
  have fin : EP X pins σ Q u s := ⟨v, H, I, r, h⟩
  rcases l with ⟨hk, hm⟩ | ⟨hk, c, hc, hcell⟩
  · exact wpAny_Name (wpAny_loadName_local I.ok.kind hk hn hm fin) hd
  · rcases hk with hk | hk
    · exact wpAny_Name (wpAny_loadName_cell I.ok.kind hk hc hcell fin) hd
    · exact wpAny_Name (wpAny_loadName_free I.ok.kind hk hc hcell fin hcd) hd
theorem pe_int {i j pos} : PE X (.Constant (.int i) j pos) (tC (.int i)) := fun _ _ _ H _ I h => wpAny_Constant_int ⟨.int i, H, I.tok _, ⟨_, rfl⟩, h⟩
theorem pe_bl {b j pos} : PE X (.Constant (.bool b) j pos) (tC (.bl b)) := fun _ _ _ H _ I h => Constant_bool ⟨.bl b, H, I, rfl, h⟩
theorem pe_non {j pos} : PE X (.Constant .none j pos) (tC .non) := fun _ _ _ H _ I h => Constant_none ⟨.non, H, I, rfl, h⟩
theorem pe_str {x j pos} : PE X (.Constant (.str x) j pos) (tC (.str x)) := fun _ _ _ H _ I h => Calls.Constant_str ⟨.str x, H, I.tok _, ⟨_, rfl⟩, h⟩

/-- a global name of the def -/
def Gl (X : Cx) (x : Str) : Prop := X.env.kindOf x = some .globalImplicit
theorem ld_glob {E : Value → Shared → Prop} {pins : List (Addr × Obj)} {s : Shared} {σ : St} {H : Hp} {x : Str} {u : Value} {pos : Pos} {Q : Value → Shared → Prop} (I : Inv X pins σ H s) (hg : Gl X x) (hm : X.mg x = some u) (h : Q u s)
    (hd : (x == ("__debug__" : Str)) = false := by decide) : wpAny (model X.prog X.w) X.A (eval (.Name x pos) X.env) Q E s :=
  Calls.Name_function_global I.ok.kind hg (Calls.loadGlobal_global (by rw [I.ok.glob]; exact I.mod.glob.keeps I.bk) hm h) hd
theorem ld_blt {E : Value → Shared → Prop} {pins : List (Addr × Obj)} {s : Shared} {σ : St} {H : Hp} {x : Str} {u : Value} {pos : Pos} {Q : Value → Shared → Prop} (I : Inv X pins σ H s) (hg : Gl X x) (hm : X.mg x = none) (hv : bootBuiltins x = some u) (h : Q u s)
    (hn : x ≠ "__name__" := by decide) (hd : (x == ("__debug__" : Str)) = false := by decide) : wpAny (model X.prog X.w) X.A (eval (.Name x pos) X.env) Q E s := by
  obtain ⟨mb, h1, h2⟩ := I.mod.blt
  exact Calls.Name_function_global I.ok.kind hg (Calls.loadGlobal_builtin (by rw [I.ok.glob]; exact I.mod.glob.keeps I.bk) hm (by rw [I.ok.blt]; exact h1.keeps I.bk) ((h2 x hn).trans hv) h) hd
/-- a module's constant, a class, a function, as a value -/
theorem pe_glob {x : Str} {v : V} {u : Value} {pos : Pos} (hg : Gl X x) (hm : X.mg x = some u) (r : RelV v u) (hd : (x == ("__debug__" : Str)) = false := by decide) : PE X (.Name x pos) (tC v) :=
  fun _ _ _ H _ I h => ld_glob I hg hm ⟨v, H, I, r, h⟩ hd
theorem pe_bltn {x : Str} {v : V} {u : Value} {pos : Pos} (hg : Gl X x) (hm : X.mg x = none) (hv : bootBuiltins x = some u) (r : RelV v u) (hn : x ≠ "__name__" := by decide) (hd : (x == ("__debug__" : Str)) = false := by decide) : PE X (.Name x pos) (tC v) :=
  fun _ _ _ H _ I h => ld_blt I hg hm hv ⟨v, H, I, r, h⟩ hn hd

/-! ### arithmetic -/
/-- two ints -/
def t2I (ta tb : TE) (k : Int → Int → Hp → Prop) : St → Hp → Prop := fun σ H => ta σ H fun x H1 => tb σ H1 fun y H2 => ∃ i j, x = .int i ∧ y = .int j ∧ k i j H2
def tAdd (ta tb : TE) : TE := fun σ H Q => t2I ta tb (fun i j H2 => Q (.int (i + j)) H2) σ H
def tSub (ta tb : TE) : TE := fun σ H Q => t2I ta tb (fun i j H2 => Q (.int (i - j)) H2) σ H
/-- the left factor below 2^64 -/
def tMul (ta tb : TE) : TE := fun σ H Q => t2I ta tb (fun i j H2 => (-(2 ^ 64) < i ∧ i < 2 ^ 64) ∧ Q (.int (i * j)) H2) σ H
variable {a b : Expr} {ta tb : TE} {pos : Pos}
theorem pe_add (ha : PE X a ta) (hb : PE X b tb) : PE X (.BinOp a .Add b pos) (tAdd ta tb) := by
  intro pins s σ H Q I h
  refine wpAny_BinOp (bin ha hb I h fun v u s2 x y H2 I2 rx ry q => ?_)
  obtain ⟨i, j, rfl, rfl, q⟩ := q
  obtain ⟨t, rfl⟩ := rx
  obtain ⟨t', rfl⟩ := ry
  exact add_int ⟨.int _, H2, I2.tok _, ⟨_, rfl⟩, q⟩
theorem pe_sub (ha : PE X a ta) (hb : PE X b tb) : PE X (.BinOp a .Sub b pos) (tSub ta tb) := by
  intro pins s σ H Q I h
  refine wpAny_BinOp (bin ha hb I h fun v u s2 x y H2 I2 rx ry q => ?_)
  obtain ⟨i, j, rfl, rfl, q⟩ := q
  obtain ⟨t, rfl⟩ := rx
  obtain ⟨t', rfl⟩ := ry
  exact sub_int ⟨.int _, H2, I2.tok _, ⟨_, rfl⟩, q⟩
theorem pe_mul (ha : PE X a ta) (hb : PE X b tb) : PE X (.BinOp a .Mult b pos) (tMul ta tb) := by
  intro pins s σ H Q I h
  refine wpAny_BinOp (bin ha hb I h fun v u s2 x y H2 I2 rx ry q => ?_)
  obtain ⟨i, j, rfl, rfl, ⟨q1, q2⟩, q⟩ := q
  obtain ⟨t, rfl⟩ := rx
  obtain ⟨t', rfl⟩ := ry
  exact mul_int ⟨.int _, H2, I2.tok _, ⟨_, rfl⟩, q⟩ (.of_left (intBits_le_64 q1 q2))

/-! ### comparisons -/
def PC (X : Cx) (op : CmpOp) (a b : Expr) (t : TE) : Prop :=
  ∀ (pins : List (Addr × Obj)) (s : Shared) (σ : St) (H : Hp) (Q : VK), Inv X pins σ H s → t σ H Q →
    wpAny (model X.prog X.w) X.A (eval a X.env) (fun v s₁ => wpAny (model X.prog X.w) X.A (eval b X.env) (fun u s₂ => wpAny (model X.prog X.w) X.A (compareOp op v u) (EP X pins σ Q) X.xe s₂) X.xe s₁) X.xe s
theorem nobehind (b : Expr) {op : CmpOp} (h : op ≠ .In) (h2 : op ≠ .NotIn) : behindInMarks op b = false := by
  have e1 : (op == CmpOp.In) = false := by cases op <;> first | rfl | exact absurd rfl h
  have e2 : (op == CmpOp.NotIn) = false := by cases op <;> first | rfl | exact absurd rfl h2
  cases b <;> simp [behindInMarks, e1, e2]
def tCmp (p : Int → Int → Bool) (ta tb : TE) : TE := fun σ H Q => t2I ta tb (fun i j H2 => Q (.bl (p i j)) H2) σ H
abbrev tLt : TE → TE → TE := tCmp fun i j => decide (i < j)
abbrev tLe : TE → TE → TE := tCmp fun i j => decide (i ≤ j)
abbrev tGt : TE → TE → TE := tCmp fun i j => decide (j < i)
abbrev tGe : TE → TE → TE := tCmp fun i j => decide (j ≤ i)
abbrev tEqI : TE → TE → TE := tCmp fun i j => decide (i = j)
abbrev tNeI : TE → TE → TE := tCmp fun i j => !decide (i = j)
/-- a comparison of two ints, by its rule -/
theorem pc_int {op : CmpOp} {p : Int → Int → Bool} (ha : PE X a ta) (hb : PE X b tb)
    (rule : ∀ (i j : Int) (t u : Tok) (Q : Value → Shared → Prop) (s : Shared), Q (.bool (p i j)) s → wpAny (model X.prog X.w) X.A (compareOp op (.int i t) (.int j u)) Q X.xe s) : PC X op a b (tCmp p ta tb) := by
  intro pins s σ H Q I h
  refine bin ha hb I h fun v u s2 x y H2 I2 rx ry q => ?_
  obtain ⟨i, j, rfl, rfl, q⟩ := q
  obtain ⟨t, rfl⟩ := rx
  obtain ⟨t', rfl⟩ := ry
  exact rule i j t t' _ s2 ⟨.bl _, H2, I2, rfl, q⟩
theorem pc_lt (ha : PE X a ta) (hb : PE X b tb) : PC X .Lt a b (tLt ta tb) := pc_int ha hb fun _ _ _ _ _ _ h => lt_int h
theorem pc_le (ha : PE X a ta) (hb : PE X b tb) : PC X .LtE a b (tLe ta tb) := pc_int ha hb fun _ _ _ _ _ _ h => le_int h
theorem pc_gt (ha : PE X a ta) (hb : PE X b tb) : PC X .Gt a b (tGt ta tb) := pc_int ha hb fun _ _ _ _ _ _ h => gt_int h
theorem pc_ge (ha : PE X a ta) (hb : PE X b tb) : PC X .GtE a b (tGe ta tb) := pc_int ha hb fun _ _ _ _ _ _ h => ge_int h
theorem pc_eqI (ha : PE X a ta) (hb : PE X b tb) : PC X .Eq a b (tEqI ta tb) := pc_int ha hb fun _ _ _ _ _ _ h => eq_int (by rw [Bool.beq_eq_decide_eq]; exact h)
theorem pc_neI (ha : PE X a ta) (hb : PE X b tb) : PC X .NotEq a b (tNeI ta tb) := pc_int ha hb fun _ _ _ _ _ _ h => ne_int (by rw [bne, Bool.beq_eq_decide_eq]; exact h)
/-- is None -/
def tIsN (ta : TE) : TE := fun σ H Q => ta σ H fun x H1 => Q (.bl (decide (x = .non))) H1
def tNotN (ta : TE) : TE := fun σ H Q => ta σ H fun x H1 => Q (.bl (!decide (x = .non))) H1
theorem RelV.none_iff {x : V} {v : Value} (r : RelV x v) : (v == Value.none) = decide (x = .non) := by
  cases x with
  | non => cases r; rfl
  | bl _ => cases r; rfl
  | int _ => obtain ⟨t, rfl⟩ := r; rfl
  | str _ => obtain ⟨t, rfl⟩ := r; rfl
  | byt _ => obtain ⟨t, rfl⟩ := r; rfl
  | flt _ => obtain ⟨t, rfl⟩ := r; rfl
  | ref _ => cases r; rfl
  | ty _ => cases r; rfl
theorem pc_isN {j pos'} (ha : PE X a ta) : PC X .Is a (.Constant .none j pos') (tIsN ta) := by
  intro pins s σ H Q I h
  refine thn (ha pins s σ H _ I h) fun v s1 ⟨x, H1, I1, r1, q1⟩ => ?_
  exact Constant_none (is_none_gen ⟨.bl _, H1, I1, by rw [r1.none_iff]; rfl, q1⟩)
theorem pc_notN {j pos'} (ha : PE X a ta) : PC X .IsNot a (.Constant .none j pos') (tNotN ta) := by
  intro pins s σ H Q I h
  refine thn (ha pins s σ H _ I h) fun v s1 ⟨x, H1, I1, r1, q1⟩ => ?_
  exact Constant_none (isnot_none_gen ⟨.bl _, H1, I1, by rw [r1.none_iff]; rfl, q1⟩)
/-- a comparison as a value, as a test -/
def tB (t : TE) : TT := fun σ H Q => t σ H fun x H1 => ∃ c, x = .bl c ∧ Q c H1
theorem pe_cmp {op : CmpOp} {t : TE} (h : PC X op a b t) (h1 : behindInMarks op b = false := by first | exact nobehind _ (by decide) (by decide) | rfl) : PE X (.Compare a [op] [b] pos) t := fun pins s σ H Q I hw => wpAny_Compare1 (h pins s σ H Q I hw) h1
theorem pt_cmp {op : CmpOp} {t : TE} (h : PC X op a b t) (h1 : behindInMarks op b = false := by first | exact nobehind _ (by decide) (by decide) | rfl) : PT X (.Compare a [op] [b] pos) (tB t) := by
  intro pins s σ H Q I hw
  refine wpAny_isTrue_Compare1 (thn (h pins s σ H _ I hw) fun v s1 h1 => thn h1 fun u s2 h2 => thn h2 fun c s3 ⟨x, H1, I1, r1, q1⟩ => ?_) h1
  obtain ⟨d, rfl, q⟩ := q1
  cases r1
  exact wpAny_truthy_bool ⟨H1, I1, q⟩
/-- an expression whose value is a bool, as a test -/
theorem pt_val {e : Expr} {t : TE} (h : PE X e t) (he : ∀ whole, isTrue e X.env whole = (do let v ← whole; standAt e.pos; holding [v] (truthy v)) := by intro _; rfl) : PT X e (tB t) := by
  intro pins s σ H Q I hw
  refine isTrue_plain (thn (h pins s σ H _ I hw) fun v s1 ⟨x, H1, I1, r1, q1⟩ => ?_) (he _)
  obtain ⟨d, rfl, q⟩ := q1
  cases r1
  exact wpAny_truthy_bool ⟨H1, I1, q⟩

/-! ### and, or, not -/
variable {tA tB' : TT} {rest : List Expr}
def tAnd (t u : TT) : TT := fun σ H Q => t σ H fun c H1 => if c = true then u σ H1 Q else Q false H1
def tOr (t u : TT) : TT := fun σ H Q => t σ H fun c H1 => if c = true then Q true H1 else u σ H1 Q
def tNot (t : TT) : TT := fun σ H Q => t σ H fun c H1 => Q (!c) H1
theorem pw_and1 (ha : PT X a tA) : PW X (.BoolOp .And [a] pos) tA := by
  intro wh pins s σ H Q I h
  refine isTrue_and (thn (ha pins s σ H Q I h) fun c s1 e => ?_)
  cases c with
  | true => exact isTrue_and_nil e
  | false => exact e
theorem pw_or1 (ha : PT X a tA) : PW X (.BoolOp .Or [a] pos) tA := by
  intro wh pins s σ H Q I h
  refine isTrue_or (thn (ha pins s σ H Q I h) fun c s1 e => ?_)
  cases c with
  | false => exact isTrue_or_nil e
  | true => exact e
theorem pw_and (ha : PT X a tA) (hb : PW X (.BoolOp .And (b :: rest) pos) tB') : PW X (.BoolOp .And (a :: b :: rest) pos) (tAnd tA tB') := by
  intro wh pins s σ H Q I h
  refine isTrue_and (thn (ha pins s σ H _ I h) fun c s1 ⟨H1, I1, q1⟩ => ?_)
  cases c with
  | true => exact hb wh pins s1 σ H1 Q I1 q1
  | false => exact ⟨H1, I1, q1⟩
theorem pw_or (ha : PT X a tA) (hb : PW X (.BoolOp .Or (b :: rest) pos) tB') : PW X (.BoolOp .Or (a :: b :: rest) pos) (tOr tA tB') := by
  intro wh pins s σ H Q I h
  refine isTrue_or (thn (ha pins s σ H _ I h) fun c s1 ⟨H1, I1, q1⟩ => ?_)
  cases c with
  | true => exact ⟨H1, I1, q1⟩
  | false => exact hb wh pins s1 σ H1 Q I1 q1
theorem pt_not (ha : PT X a tA) : PT X (.UnaryOp .Not a pos) (tNot tA) := by
  intro pins s σ H Q I h
  exact isTrue_not (ha pins s σ H (fun c H1 => Q (!c) H1) I h)
/-- .. as values (bools) -/
def tAndV (ta tb : TE) : TE := fun σ H Q => ta σ H fun x H1 => ∃ c, x = .bl c ∧ if c = true then tb σ H1 Q else Q (.bl false) H1
def tOrV (ta tb : TE) : TE := fun σ H Q => ta σ H fun x H1 => ∃ c, x = .bl c ∧ if c = true then Q (.bl true) H1 else tb σ H1 Q
def tNotV (ta : TE) : TE := fun σ H Q => ta σ H fun x H1 => ∃ c, x = .bl c ∧ Q (.bl (!c)) H1
theorem pe_one {op} {t : TE} (h : PE X a t) : PE X (.BoolOp op [a] pos) t := fun pins s σ H Q I hw => BoolOp_one (h pins s σ H Q I hw)
theorem pe_and (ha : PE X a ta) (hb : PE X (.BoolOp .And (b :: rest) pos) tb) : PE X (.BoolOp .And (a :: b :: rest) pos) (tAndV ta tb) := by
  intro pins s σ H Q I h
  refine BoolOp_and (thn (ha pins s σ H _ I h) fun v s1 ⟨x, H1, I1, r1, q1⟩ => ?_)
  obtain ⟨c, rfl, q1⟩ := q1
  cases r1
  refine wpAny_truthy_bool ?_
  cases c with
  | true => exact hb pins s1 σ H1 Q I1 q1
  | false => exact ⟨.bl false, H1, I1, rfl, q1⟩
theorem pe_or (ha : PE X a ta) (hb : PE X (.BoolOp .Or (b :: rest) pos) tb) : PE X (.BoolOp .Or (a :: b :: rest) pos) (tOrV ta tb) := by
  intro pins s σ H Q I h
  refine BoolOp_or (thn (ha pins s σ H _ I h) fun v s1 ⟨x, H1, I1, r1, q1⟩ => ?_)
  obtain ⟨c, rfl, q1⟩ := q1
  cases r1
  refine wpAny_truthy_bool ?_
  cases c with
  | false => exact hb pins s1 σ H1 Q I1 q1
  | true => exact ⟨.bl true, H1, I1, rfl, q1⟩
theorem pe_not (ha : PE X a ta) : PE X (.UnaryOp .Not a pos) (tNotV ta) := by
  intro pins s σ H Q I h
  refine UnaryOp_ (thn (ha pins s σ H _ I h) fun v s1 ⟨x, H1, I1, r1, q1⟩ => ?_)
  obtain ⟨c, rfl, q1⟩ := q1
  cases r1
  exact not_of (wpAny_truthy_bool ⟨.bl (!c), H1, I1, rfl, q1⟩)
/-- a if t else b -/
def tIf (t : TT) (ta tb : TE) : TE := fun σ H Q => t σ H fun c H1 => if c = true then ta σ H1 Q else tb σ H1 Q
theorem pe_ifExp {c : Expr} (hc : PT X c tA) (ha : PE X a ta) (hb : PE X b tb) : PE X (.IfExp c a b pos) (tIf tA ta tb) := by
  intro pins s σ H Q I h
  refine wpAny_IfExp (thn (hc pins s σ H _ I h) fun d s1 ⟨H1, I1, q1⟩ => ?_)
  cases d with
  | true => exact ha pins s1 σ H1 Q I1 q1
  | false => exact hb pins s1 σ H1 Q I1 q1
end
end L2

namespace L2
open PySem PySem.Spec PyProof.Rows

/-! ### a list, a tuple that is read: tracked, frozen, or an object of the module -/
def SqL (K : PySem.W.Frag) (H : Hp) (a : Addr) (xs : List V) : Prop :=
  Rd H a (.lst xs) ∨
    ∃ (o : Obj) (its : Array Value) (n : Nat), K.lookup a = some o ∧ o.cls = .type "list" ∧ o.dict = none ∧ o.data = .seq its n ∧ its.size ≤ sizeLine ∧ Vals xs its.toList
def SqT (K : PySem.W.Frag) (H : Hp) (a : Addr) (xs : List V) : Prop :=
  Rd H a (.tup xs) ∨
    ∃ (o : Obj) (its : Array Value) (n : Nat), K.lookup a = some o ∧ o.cls = .type "tuple" ∧ o.data = .seq its n ∧ its.size ≤ sizeLine ∧ Vals xs its.toList
def absV : Value → Option V
  | .none => some .non
  | .bool b => some (.bl b)
  | .int i _ => some (.int i)
  | .str x _ => some (.str x)
  | .bytes b _ => some (.byt b)
  | .float b _ => some (.flt b)
  | .ref a => some (.ref a)
  | .type n => some (.ty n)
  | _ => none
theorem RelV.abs {x : V} {u : Value} (r : RelV x u) : absV u = some x := by
  cases x with
  | non => cases r; rfl
  | bl _ => cases r; rfl
  | int _ => obtain ⟨t, rfl⟩ := r; rfl
  | str _ => obtain ⟨t, rfl⟩ := r; rfl
  | byt _ => obtain ⟨t, rfl⟩ := r; rfl
  | flt _ => obtain ⟨t, rfl⟩ := r; rfl
  | ref _ => cases r; rfl
  | ty _ => cases r; rfl
theorem RelV.inj {x y : V} {u : Value} (r : RelV x u) (q : RelV y u) : x = y := Option.some.inj (r.abs.symm.trans q.abs)
theorem Vals.inj : ∀ {xs ys : List V} {us : List Value}, Vals xs us → Vals ys us → xs = ys
  | _, _, _, .nil, .nil => rfl
  | _, _, _, .cons r t, .cons r' t' => by rw [r.inj r', Vals.inj t t']
section
variable {X : Cx} {pins : List (Addr × Obj)} {σ : St} {H : Hp} {s : Shared} {a : Addr} {xs ys : List V}
theorem SqL.of {K : PySem.W.Frag} (h : H a = some (.lst xs)) : SqL K H a xs := .inl (.inl h)
theorem SqT.of {K : PySem.W.Frag} (h : H a = some (.tup xs)) : SqT K H a xs := .inl (.inl h)
theorem Inv.list (I : Inv X pins σ H s) (h : SqL X.K H a xs) : ∃ its : List Value, Vals xs its ∧ PlainL s.heap a its.toArray ∧ xs.length ≤ sizeLine := by
  rcases h with h | ⟨o, its, n, hk, hc, hd, hs, hz, r⟩
  · obtain ⟨z, its, n, r, e⟩ := h.ok I.hok
    exact ⟨its, r, ⟨_, n, e, rfl, rfl, rfl⟩, z⟩
  · refine ⟨its.toList, r, ⟨o, n, I.kIn a o hk, hc, hd, by simpa using hs⟩, ?_⟩
    have e := r.length
    simp only [Array.length_toList] at e
    omega
theorem Inv.tuple (I : Inv X pins σ H s) (h : SqT X.K H a xs) : ∃ its : List Value, Vals xs its ∧ IsTup s.heap a its.toArray ∧ xs.length ≤ sizeLine := by
  rcases h with h | ⟨o, its, n, hk, hc, hs, hz, r⟩
  · obtain ⟨z, its, r, p⟩ := h.ok I.hok
    exact ⟨its, r, p, z⟩
  · refine ⟨its.toList, r, ⟨o, I.kIn a o hk, hc, n, by simpa using hs⟩, ?_⟩
    have e := r.length
    simp only [Array.length_toList] at e
    omega
theorem Inv.list_inj (I : Inv X pins σ H s) (h : SqL X.K H a xs) (h' : SqL X.K H a ys) : xs = ys := by
  obtain ⟨its, r, ⟨o, n, e, _, _, d⟩, _⟩ := I.list h
  obtain ⟨its', r', ⟨o', n', e', _, _, d'⟩, _⟩ := I.list h'
  rw [e] at e'; cases e'
  rw [d] at d'
  injection d' with d1 _
  have : its = its' := by simpa using congrArg Array.toList d1
  subst this
  exact r.inj r'
theorem Inv.tuple_inj (I : Inv X pins σ H s) (h : SqT X.K H a xs) (h' : SqT X.K H a ys) : xs = ys := by
  obtain ⟨its, r, ⟨o, e, _, n, d⟩, _⟩ := I.tuple h
  obtain ⟨its', r', ⟨o', e', _, n', d'⟩, _⟩ := I.tuple h'
  rw [e] at e'; cases e'
  rw [d] at d'
  injection d' with d1 _
  have : its = its' := by simpa using congrArg Array.toList d1
  subst this
  exact r.inj r'
end

/-! ### another wish about exceptions -/
abbrev Cx.wish (X : Cx) (E : Value → Shared → Prop) : Cx := { X with xe := E }
/-- no exception leaves -/
abbrev Cx.nox (X : Cx) : Cx := X.wish fun _ _ => False
theorem Cx.Ok.wish {X : Cx} (ok : X.Ok) (E : Value → Shared → Prop) : (X.wish E).Ok :=
  ⟨ok.mod, ok.kind, ok.glob, ok.blt, ok.above, ok.inj, ok.has, ok.cab, ok.hd, ok.frames, ok.stk, ok.exf, ok.bs, ok.bsz, ok.noex, ok.exfs, ok.funs, ok.frf⟩
theorem Cx.Ok.unwish {X : Cx} {E : Value → Shared → Prop} (ok : (X.wish E).Ok) : X.Ok :=
  ⟨ok.mod, ok.kind, ok.glob, ok.blt, ok.above, ok.inj, ok.has, ok.cab, ok.hd, ok.frames, ok.stk, ok.exf, ok.bs, ok.bsz, ok.noex, ok.exfs, ok.funs, ok.frf⟩
section
variable {X : Cx} {pins : List (Addr × Obj)} {σ : St} {H : Hp} {s : Shared} {E : Value → Shared → Prop}
theorem Inv.wish (I : Inv X pins σ H s) (E : Value → Shared → Prop) : Inv (X.wish E) pins σ H s := ⟨I.ok.wish E, I.os, I.bare, I.base, I.loc, I.cell, I.free, I.freeC, I.pin, I.hok, I.len⟩
theorem Inv.unwish (I : Inv (X.wish E) pins σ H s) : Inv X pins σ H s := ⟨I.ok.unwish, I.os, I.bare, I.base, I.loc, I.cell, I.free, I.freeC, I.pin, I.hok, I.len⟩
theorem SP.unwish {D : Ends} {f : Flow} {s' : Shared} (h : SP (X.wish E) pins D f s') : SP X pins D f s' := by
  cases f with
  | next => obtain ⟨σ', H', I, q⟩ := h; exact ⟨σ', H', I.unwish, q⟩
  | brk => obtain ⟨σ', H', I, q⟩ := h; exact ⟨σ', H', I.unwish, q⟩
  | cont => obtain ⟨σ', H', I, q⟩ := h; exact ⟨σ', H', I.unwish, q⟩
  | ret u => obtain ⟨v, σ', H', I, r, q⟩ := h; exact ⟨v, σ', H', I.unwish, r, q⟩
theorem PE.nox {e : Expr} {t : TE} (h : PE X.nox e t) : PE X e t := fun pins s σ H Q I hw =>
  wpAny_mono (h pins s σ H Q (I.wish _) hw) (fun _ _ ⟨v, H', I', r, q⟩ => ⟨v, H', I'.unwish, r, q⟩) fun _ _ z => False.elim z
theorem PT.nox {e : Expr} {t : TT} (h : PT X.nox e t) : PT X e t := fun pins s σ H Q I hw =>
  wpAny_mono (h pins s σ H Q (I.wish _) hw) (fun _ _ ⟨H', I', q⟩ => ⟨H', I'.unwish, q⟩) fun _ _ z => False.elim z
theorem PSs.nox {st : List Stmt} {t : TS} (h : PSs X.nox st t) : PSs X st t := fun pins s σ H D I hw =>
  wpAny_mono (h pins s σ H D (I.wish _) hw) (fun _ _ q => q.unwish) fun _ _ z => False.elim z
end

/-! ### blocks and small statements -/
section
variable {X : Cx} {st : Stmt} {rest : List Stmt} {t u : TS} {e : Expr} {te : TE} {pos : Pos}
def tNext : TS := fun D σ H => D.nx σ H
def tSeq (t u : TS) : TS := fun D σ H => t { D with nx := u D } σ H
theorem pss_nil : PSs X [] tNext := fun _ _ σ H _ I h => wpAny_execs_nil ⟨σ, H, I, h⟩
theorem pss_cons (h1 : PS X st t) (h2 : PSs X rest u) : PSs X (st :: rest) (tSeq t u) := by
  intro pins s σ H D I h
  refine wpAny_execs_cons (thn (h1 pins s σ H { D with nx := u D } I h) fun f s1 q => ?_)
  cases f with
  | next =>
    obtain ⟨σ', H', I', q⟩ := q
    exact h2 pins s1 σ' H' D I' q
  | ret v => exact q
  | brk => exact q
  | cont => exact q
theorem pss_one (h1 : PS X st t) : PSs X [st] t := by
  intro pins s σ H D I h
  refine wpAny_execs_cons (thn (h1 pins s σ H D I h) fun f s1 q => ?_)
  cases f with
  | next => exact wpAny_execs_nil q
  | ret v => exact q
  | brk => exact q
  | cont => exact q
def tBreak : TS := fun D σ H => D.bk σ H
def tCont : TS := fun D σ H => D.ct σ H
theorem ps_pass : PS X (.Pass pos) tNext := fun _ _ σ H _ I h => wpAny_Pass ⟨σ, H, I, h⟩
theorem ps_break : PS X (.Break pos) tBreak := fun _ _ σ H _ I h => wpAny_Break ⟨σ, H, I, h⟩
theorem ps_continue : PS X (.Continue pos) tCont := fun _ _ σ H _ I h => wpAny_Continue ⟨σ, H, I, h⟩
/-- in a def's body nothing is shown -/
theorem Inv.quiet {pins : List (Addr × Obj)} {σ : St} {H : Hp} {s : Shared} (I : Inv X pins σ H s) : interactive X.env = false := by simp [interactive, I.ok.kind]
/-- a docstring -/
theorem ps_doc {x j pos pos'} : PS X (.Expr (.Constant (.str x) j pos) pos') tNext := fun _ s σ H _ I h => wpAny_Expr (Calls.Constant_str (show SP X _ _ .next { s with toks := s.toks + 1 } from ⟨σ, H, I.tok _, h⟩)) I.quiet
/-- an expression whose value is dropped -/
def tDrop (te : TE) : TS := fun D σ H => te σ H fun _ H1 => D.nx σ H1
theorem ps_expr (he : PE X e te) (hs : swapsWith e none pos.line X.env = pure false := by rfl) : PS X (.Expr e pos) (tDrop te) := by
  intro pins s σ H D I h
  exact wpAny_Expr_any (thn (he pins s σ H _ I h) fun v s1 ⟨x, H1, I1, r1, q1⟩ => ⟨σ, H1, I1, q1⟩) I.quiet hs
def tRet (te : TE) : TS := fun D σ H => te σ H D.rt
theorem ps_ret (he : PE X e te) : PS X (.Return (some e) pos) (tRet te) := by
  intro pins s σ H D I h
  exact wpAny_Return_some (thn (he pins s σ H _ I h) fun v s1 ⟨x, H1, I1, r1, q1⟩ => ⟨x, σ, H1, I1, r1, q1⟩)
def tRetN : TS := fun D _ H => D.rt .non H
theorem ps_retN : PS X (.Return none pos) tRetN := fun _ _ σ H _ I h => wpAny_Return_none ⟨.non, σ, H, I, rfl, h⟩
def tIfS (c : TT) (t u : TS) : TS := fun D σ H => c σ H fun b H1 => if b = true then t D σ H1 else u D σ H1
theorem ps_if {c : Expr} {a b : List Stmt} {tc : TT} (hc : PT X c tc) (ha : PSs X a t) (hb : PSs X b u) : PS X (.If c a b pos) (tIfS tc t u) := by
  intro pins s σ H D I h
  refine wpAny_If (thn (hc pins s σ H _ I h) fun d s1 ⟨H1, I1, q1⟩ => ?_)
  cases d with
  | true => exact ha pins s1 σ H1 D I1 q1
  | false => exact hb pins s1 σ H1 D I1 q1
/-- code that the proof never comes to -/
def tNever : TS := fun _ _ _ => False
theorem ps_never : PS X st tNever := fun _ _ _ _ _ _ h => h.elim
theorem pss_never {sts : List Stmt} : PSs X sts tNever := fun _ _ _ _ _ _ h => h.elim
end

/-! ### targets -/
abbrev TG := V → St → Hp → (St → Hp → Prop) → Prop
abbrev TGs := List V → St → Hp → (St → Hp → Prop) → Prop
def PG (X : Cx) (target : Expr) (t : TG) : Prop :=
  ∀ (pins : List (Addr × Obj)) (s : Shared) (σ : St) (H : Hp) (v : V) (u : Value) (Q : St → Hp → Prop), Inv X pins σ H s → RelV v u → t v σ H Q →
    wpAny (model X.prog X.w) X.A (assign target X.env u) (fun _ s' => ∃ σ' H', Inv X pins σ' H' s' ∧ Q σ' H') X.xe s
/-- several targets, one after another -/
def PGs (X : Cx) (ts : List Expr) (t : TGs) : Prop :=
  ∀ (pins : List (Addr × Obj)) (s : Shared) (σ : St) (H : Hp) (vs : List V) (us : List Value) (Q : St → Hp → Prop), Inv X pins σ H s → Vals vs us → t vs σ H Q →
    wpAny (model X.prog X.w) X.A (assignInOrder ((assignEach ts X.env).map (·.2)) us) (fun _ s' => ∃ σ' H', Inv X pins σ' H' s' ∧ Q σ' H') X.xe s
/-- o[i] = v, by values -/
abbrev TSet := V → V → V → Hp → (Hp → Prop) → Prop
def PSet (X : Cx) (t : TSet) : Prop :=
  ∀ (pins : List (Addr × Obj)) (s : Shared) (σ : St) (H : Hp) (o i v : V) (ov iv u : Value) (Q : Hp → Prop), Inv X pins σ H s → RelV o ov → RelV i iv → RelV v u → t o i v H Q →
    wpAny (model X.prog X.w) X.A (setItem ov iv u) (fun _ s' => ∃ H', Inv X pins σ H' s' ∧ Q H') X.xe s
/-- a op= b, by values -/
abbrev TIp := V → V → Hp → VK → Prop
def PIp (X : Cx) (op : Operator) (t : TIp) : Prop :=
  ∀ (pins : List (Addr × Obj)) (s : Shared) (σ : St) (H : Hp) (x y : V) (v u : Value) (Q : VK), Inv X pins σ H s → RelV x v → RelV y u → t x y H Q →
    wpAny (model X.prog X.w) X.A (inplaceOp op v u) (EP X pins σ Q) X.xe s
section
variable {X : Cx} {pos : Pos}
def gName (i : Nat) : TG := fun v σ H Q => Q (σ.set i (some v)) H
theorem pg_name {i : Nat} {x : Str} (hN : X.N.Nodup) (hi : X.N[i]? = some x) (hx : Loc X.env.scope x) (hf : X.fn x = true ∨ X.env.scope.names.lookup x = some .local := by first | exact .inl rfl | exact .inr rfl | assumption) : PG X (.Name x pos) (gName i) := by
  intro pins s σ H v u Q I r h
  exact wpAny_assign_Name (store_ok I hN hi hx r (fun s' I' => ⟨_, H, I', h⟩) hf)
def gNil : TGs := fun vs σ H Q => vs = [] ∧ Q σ H
def gCons (t : TG) (u : TGs) : TGs := fun vs σ H Q => ∃ v r, vs = v :: r ∧ t v σ H fun σ' H' => u r σ' H' Q
theorem pgs_nil : PGs X [] gNil := by
  intro pins s σ H vs us Q I r h
  obtain ⟨e, h⟩ := h
  subst e
  cases r
  exact assignInOrder_nil ⟨σ, H, I, h⟩
theorem pgs_cons {e : Expr} {es : List Expr} {t : TG} {u : TGs} (h1 : PG X e t) (h2 : PGs X es u)
    (hs : (assignEach (e :: es) X.env).map (·.2) = assign e X.env :: (assignEach es X.env).map (·.2) := by rfl) : PGs X (e :: es) (gCons t u) := by
  intro pins s σ H vs us Q I r h
  obtain ⟨v, vr, e1, h⟩ := h
  subst e1
  cases r with
  | cons r rr =>
    rw [hs]
    refine assignInOrder_cons (thn (h1 pins s σ H _ _ _ I r h) fun _ s1 ⟨σ1, H1, I1, q1⟩ => ?_)
    exact h2 pins s1 σ1 H1 _ _ Q I1 rr q1
/-- (a, b, ..) = a tuple of that length -/
def gTup (K : PySem.W.Frag) (n : Nat) (t : TGs) : TG := fun v σ H Q => ∃ a xs, v = .ref a ∧ SqT K H a xs ∧ xs.length = n ∧ t xs σ H Q
theorem pg_tup {es : List Expr} {k : Nat} {t : TGs} {n : Nat} (hc : X.calm = true) (h : PGs X es t)
    (hn : (assignEach es X.env).length = n := by rfl) (hst : (assignEach es X.env).findIdx? (·.1) = none := by rfl) : PG X (.Tuple es k pos) (gTup X.K n t) := by
  intro pins s σ H v u Q I r hw
  obtain ⟨a, xs, e1, hq, hl, hw⟩ := hw
  subst e1
  cases r
  obtain ⟨its, rv, ht, hz⟩ := I.tuple hq
  refine assign_Tuple_tuple (I.ok.hd hc) ht (by simp [hn, ← hl, rv.length]) hst fun h' hx => ?_
  have I1 : Inv X pins σ H { s with heap := h' } := I.kept (t' := s.toks) fun b o e => hx b o (Nat.ne_of_lt (Heap.lt_size e)) e
  exact h pins _ σ H xs _ Q I1 (by simpa using rv) hw
/-- o[i] = .. -/
def gSub (to ti : TE) (t : TSet) : TG := fun v σ H Q => to σ H fun o H1 => ti σ H1 fun i H2 => t o i v H2 fun H3 => Q σ H3
theorem pg_sub {o i : Expr} {to ti : TE} {t : TSet} (ho : PE X o to) (hi : PE X i ti) (hs : PSet X t)
    (ha : ∀ v, assign (.Subscript o i pos) X.env v = (do
      let ov ← holding [v] (eval o X.env)
      let iv ← holding [v, ov] (eval i X.env)
      standAt pos
      holding [v, ov, iv] (setItem ov iv v)
      release [v, ov, iv] []) := by intro _; rfl) : PG X (.Subscript o i pos) (gSub to ti t) := by
  intro pins s σ H v u Q I r h
  rw [ha]
  refine wpAny_bind (wpAny_holding (thn (ho pins s σ H _ I h) fun ov s1 ⟨x, H1, I1, r1, q1⟩ => ?_))
  refine wpAny_bind (wpAny_holding (thn (hi pins s1 σ H1 _ I1 q1) fun iv s2 ⟨y, H2, I2, r2, q2⟩ => ?_))
  refine wpAny_bind (wpAny_standAt (wpAny_bind (wpAny_holding (thn (hs pins s2 σ H2 x y v ov iv u _ I2 r1 r2 r q2) fun _ s3 ⟨H3, I3, q3⟩ => ?_))))
  exact wpAny_release ⟨σ, H3, I3, q3⟩
/-- target = value -/
def tAsg (te : TE) (g : TG) : TS := fun D σ H => te σ H fun x H1 => g x σ H1 D.nx
theorem ps_asg {tg e : Expr} {te : TE} {g : TG} (he : PE X e te) (hg : PG X tg g) (hs : swapsWithSole [tg] e pos.line X.env = pure false := by rfl) (hw : swappedStores [tg] e X.env = pure none := by rfl)
    (h1 : (assignEach [tg] X.env).map (·.2) = [assign tg X.env] := by rfl) : PS X (.Assign [tg] e pos) (tAsg te g) := by
  intro pins s σ H D I h
  refine wpAny_Assign_stores (thn (he pins s σ H _ I h) fun v s1 ⟨x, H1, I1, r1, q1⟩ => ?_) hs hw
  rw [h1]
  exact thn (hg pins s1 σ H1 x v _ I1 r1 q1) fun _ s2 q => q
/-- name = value -/
theorem ps_set {i : Nat} {x : Str} {e : Expr} {te : TE} {pos' : Pos} (hN : X.N.Nodup) (hi : X.N[i]? = some x) (hx : Loc X.env.scope x) (he : PE X e te) (hs : swapsWith e (some (.Name x pos')) pos.line X.env = pure false := by rfl) (hf : X.fn x = true ∨ X.env.scope.names.lookup x = some .local := by first | exact .inl rfl | exact .inr rfl | assumption) :
    PS X (.Assign [.Name x pos'] e pos) (tAsg te (gName i)) := by
  intro pins s σ H D I h
  refine wpAny_Assign_Name (thn (he pins s σ H _ I h) fun v s1 ⟨y, H1, I1, r1, q1⟩ => ?_) hs
  exact store_ok I1 hN hi hx r1 (fun s2 I2 => ⟨_, H1, I2, q1⟩) hf
/-- a, b = x, y with plain local names: stored from the right; the pair itself is not tracked (the opening rows as in PyProof/Rows/TupAssign.lean:23) -/
def tPar (i j : Nat) (ta : TA) : TS := fun D σ H => ta σ H fun vs H1 => ∃ v w, vs = [v, w] ∧ D.nx ((σ.set i (some v)).set j (some w)) H1
theorem ps_par {i j : Nat} {x y : Str} {a b : Expr} {ta : TA} {px py pt : Pos} {kt k2 pt2} (hc : X.calm = true) (hN : X.N.Nodup) (hi : X.N[i]? = some x) (hj : X.N[j]? = some y) (hij : i ≠ j)
    (hx : X.env.scope.names.lookup x = some .local) (hy : X.env.scope.names.lookup y = some .local) (ha : PA X [a, b] ta)
    (hw : swappedStores [.Tuple [.Name x px, .Name y py] kt pt] (.Tuple [a, b] k2 pt2) X.env = pure (some [x, y]))
    (hs : swapsWithSole [.Tuple [.Name x px, .Name y py] kt pt] (.Tuple [a, b] k2 pt2) pos.line X.env = pure false := by rfl) :
    PS X (.Assign [.Tuple [.Name x px, .Name y py] kt pt] (.Tuple [a, b] k2 pt2) pos) (tPar i j ta) := by
  intro pins s σ H D I h
  rw [exec_Assign_arm]
  refine wpAny_bind (wpAny_standAt ?_)
  rw [hs]
  refine wpAny_bind (wpAny_pure ?_)
  rw [if_neg (by decide)]
  refine wpAny_bind (Tuple_ (thn (ha _ pins s σ H _ I h) fun us s1 ⟨vs, H1, I1, r1, q1⟩ => ?_))
  obtain ⟨v, w, e1, q1⟩ := q1
  subst e1
  obtain ⟨u1, u2, rfl, rv, rw'⟩ : ∃ u1 u2, us = [u1, u2] ∧ RelV v u1 ∧ RelV w u2 := by
    cases r1 with
    | cons p q =>
      cases q with
      | cons p' q' =>
        cases q'
        exact ⟨_, _, rfl, p, p'⟩
  refine wpAny_newObj_type ?_ (by show 2 ≤ sizeLine; decide)
  have I2 : Inv X pins σ H1 { s1 with heap := s1.heap.push { cls := .type "tuple", data := .seq [u1, u2].toArray } } := I1.kept (t' := s1.toks) fun b o e => Heap.get?_push_of_some _ e
  rw [hw]
  refine wpAny_bind (wpAny_pure ?_)
  show wpAny (model X.prog X.w) X.A (do rule "assign.swapped-stores"; let items ← unpackItems (.ref s1.heap.objs.size) 2 none; assignInOrder [fun v => bindName X.env y v, fun v => bindName X.env x v] items.reverse; pure Flow.next) _ _ _
  refine wpAny_bind (wpAny_rule (wpAny_bind (unpackItems_tuple (items := #[u1, u2]) (I.ok.hd hc) (IsTup.new s1.heap _) fun h' hx' => ?_)))
  have I3 := I2.kept (h' := h') (t' := s1.toks) fun b o e => hx' b o (Nat.ne_of_lt (Heap.lt_size e)) e
  show wpAny _ _ (assignInOrder [fun v => bindName X.env y v, fun v => bindName X.env x v] [u2, u1] >>= fun _ => pure Flow.next) _ _ _
  refine wpAny_bind (assignInOrder_cons (wpAny_bindName (store_ok I3 hN hj (.inl hy) rw' (fun s2 I4 => ?_) (.inr hy))))
  refine assignInOrder_cons (wpAny_bindName (store_ok I4 hN hi (.inl hx) rv (fun s3 I5 => assignInOrder_nil (wpAny_pure ?_)) (.inr hx)))
  rw [List.set_comm _ _ (Ne.symm hij)] at I5
  exact ⟨_, H1, I5, q1⟩
/-- name op= e -/
def tAug (i : Nat) (te : TE) (ti : TIp) : TS := fun D σ H => ∃ x, σ[i]? = some (some x) ∧ te σ H fun y H1 => ti x y H1 fun z H2 => D.nx (σ.set i (some z)) H2
theorem ps_aug {i : Nat} {x : Str} {e : Expr} {te : TE} {op : Operator} {ti : TIp} {pos' : Pos} (hN : X.N.Nodup) (hi : X.N[i]? = some x) (hx : Loc X.env.scope x) (he : PE X e te) (ho : PIp X op ti) (hf : X.fn x = true ∨ X.env.scope.names.lookup x = some .local := by first | exact .inl rfl | exact .inr rfl | assumption) :
    PS X (.AugAssign (.Name x pos') op e pos) (tAug i te ti) := by
  intro pins s σ H D I h
  obtain ⟨v, e1, h⟩ := h
  obtain ⟨m, hn, hl⟩ := I.loc
  have vis : Vis X.env.scope x := by rcases hx with k | k; exact .inl k; exact .inr (.inl k)
  obtain ⟨u, r, l⟩ := hl i x v hi e1 vis
  refine wpAny_AugAssign_Name ?_
  have go : wpAny (model X.prog X.w) X.A (eval e X.env) (fun w s₂ => wpAny (model X.prog X.w) X.A (inplaceOp op u w) (fun r s₃ => wpAny (model X.prog X.w) X.A (storeName X.env x r) (fun _ => SP X pins D .next) X.xe s₃) X.xe s₂) X.xe s := by
    refine thn (he pins s σ H _ I h) fun w s1 ⟨y, H1, I1, r1, q1⟩ => ?_
    refine thn (ho pins s1 σ H1 v y u w _ I1 r r1 q1) fun z s2 ⟨zv, H2, I2, r2, q2⟩ => ?_
    exact store_ok I2 hN hi hx r2 (fun s3 I3 => ⟨_, H2, I3, q2⟩) hf
  rcases l with ⟨hk, hm⟩ | ⟨hk, c, hc, hcell⟩
  · exact wpAny_loadName_local I.ok.kind hk hn hm go
  · rcases hk with hk | hk
    · exact wpAny_loadName_cell I.ok.kind hk hc hcell go
    · rcases hx with k | k
      · have : X.env.scope.names.lookup x = some .free := hk
        rw [k] at this; cases this
      · have : X.env.scope.names.lookup x = some .free := hk
        rw [k] at this; cases this
/-- o[i] op= e -/
def tAugS (to ti te : TE) (tget : V → V → Hp → VK → Prop) (tip : TIp) (tset : TSet) : TS := fun D σ H => to σ H fun o H1 => ti σ H1 fun i H2 => tget o i H2 fun x H3 => te σ H3 fun y H4 => tip x y H4 fun z H5 => tset o i z H5 fun H6 => D.nx σ H6
/-- o[i], by values -/
def PGet (X : Cx) (t : V → V → Hp → VK → Prop) : Prop :=
  ∀ (pins : List (Addr × Obj)) (s : Shared) (σ : St) (H : Hp) (o i : V) (ov iv : Value) (Q : VK), Inv X pins σ H s → RelV o ov → RelV i iv → t o i H Q →
    wpAny (model X.prog X.w) X.A (getItem ov iv) (EP X pins σ Q) X.xe s
theorem ps_augS {o i e : Expr} {to ti te : TE} {tget : V → V → Hp → VK → Prop} {tip : TIp} {tset : TSet} {op : Operator} {tpos : Pos} (ho : PE X o to) (hi : PE X i ti) (hg : PGet X tget) (he : PE X e te) (hp : PIp X op tip) (hs : PSet X tset)
    (ha : ∀ ov iv new, augStore i ov iv new = (do holding [new, ov, iv] (setItem ov iv new); release [new, ov, iv] []; pure .next) := by intros; rfl) : PS X (.AugAssign (.Subscript o i tpos) op e pos) (tAugS to ti te tget tip tset) := by
  intro pins s σ H D I h
  refine wpAny_AugAssign_SubscriptAny (thn (ho pins s σ H _ I h) fun ov s1 ⟨x1, H1, I1, r1, q1⟩ => ?_) ha
  refine thn (hi pins s1 σ H1 _ I1 q1) fun iv s2 ⟨x2, H2, I2, r2, q2⟩ => ?_
  refine thn (hg pins s2 σ H2 x1 x2 ov iv _ I2 r1 r2 q2) fun old s3 ⟨x3, H3, I3, r3, q3⟩ => ?_
  refine thn (he pins s3 σ H3 _ I3 q3) fun v s4 ⟨x4, H4, I4, r4, q4⟩ => ?_
  refine thn (hp pins s4 σ H4 x3 x4 old v _ I4 r3 r4 q4) fun new s5 ⟨x5, H5, I5, r5, q5⟩ => ?_
  exact thn (hs pins s5 σ H5 x1 x2 x5 ov iv new _ I5 r1 r2 r5 q5) fun _ s6 ⟨H6, I6, q6⟩ => ⟨σ, H6, I6, q6⟩
/-- ints -/
def ipI (f : Int → Int → Int) : TIp := fun x y H Q => ∃ i j, x = .int i ∧ y = .int j ∧ Q (.int (f i j)) H
theorem ip_add : PIp X .Add (ipI fun i j => i + j) := by
  intro pins s σ H x y v u Q I r1 r2 h
  obtain ⟨i, j, e1, e2, q⟩ := h
  subst e1; subst e2
  obtain ⟨t, rfl⟩ := r1
  obtain ⟨t', rfl⟩ := r2
  exact iadd_int ⟨.int _, H, I.tok _, ⟨_, rfl⟩, q⟩
theorem ip_sub : PIp X .Sub (ipI fun i j => i - j) := by
  intro pins s σ H x y v u Q I r1 r2 h
  obtain ⟨i, j, e1, e2, q⟩ := h
  subst e1; subst e2
  obtain ⟨t, rfl⟩ := r1
  obtain ⟨t', rfl⟩ := r2
  exact isub_int ⟨.int _, H, I.tok _, ⟨_, rfl⟩, q⟩
end

/-! ### while -/
section
variable {X : Cx} {pos : Pos}
/-- the invariant W with its measure -/
def tWhile (c : TT) (tb : TS) : TS := fun D σ H => ∃ W : Nat → St → Hp → Prop, (∃ m, W m σ H) ∧ ∀ m σ H, W m σ H →
  c σ H fun b H1 => if b = true then ∃ N : St → Hp → Prop, (∀ σ' H', N σ' H' → ∃ m', m' < m ∧ W m' σ' H') ∧ tb { D with nx := N, ct := N, bk := D.nx } σ H1 else D.nx σ H1
theorem ps_while {c : Expr} {body : List Stmt} {tc : TT} {tb : TS} (hp : PassesOwn (model X.prog X.w) X.A X.env X.xe) (hc : PT X c tc) (hb : PSs X body tb) : PS X (.While c body [] pos) (tWhile tc tb) := by
  intro pins s σ H D I h
  obtain ⟨W, ⟨m0, w0⟩, turn⟩ := h
  refine wpAny_While (codeAny_whileLoop (fun n s' => ∃ σ' H', Inv X pins σ' H' s' ∧ W n σ' H') ?_ m0 ⟨σ, H, I, w0⟩)
  rintro n s1 ⟨σ1, H1, I1, w1⟩
  refine wpAny_passesOwn hp (thn (hc pins s1 σ1 H1 _ I1 (turn n σ1 H1 w1)) fun b s2 ⟨H2, I2, q2⟩ => ?_)
  cases b with
  | true =>
    obtain ⟨N, hN, q2⟩ := q2
    rw [if_pos rfl]
    refine wpAny_passesOwn hp (thn (hb pins s2 σ1 H2 _ I2 q2) fun f s3 q3 => ?_)
    cases f with
    | next =>
      obtain ⟨σ3, H3, I3, n3⟩ := q3
      obtain ⟨m', hm, w3⟩ := hN σ3 H3 n3
      exact ⟨m', hm, σ3, H3, I3, w3⟩
    | cont =>
      obtain ⟨σ3, H3, I3, n3⟩ := q3
      obtain ⟨m', hm, w3⟩ := hN σ3 H3 n3
      exact ⟨m', hm, σ3, H3, I3, w3⟩
    | brk => exact q3
    | ret v => exact q3
  | false =>
    rw [if_neg Bool.false_ne_true]
    exact wpAny_execs_nil ⟨σ1, H2, I2, q2⟩
end

/-! ### what a loop or a comprehension walks -/
/-- at turn i: it yields x (the heap may grow), or it stops -/
structure It where
  go : Nat → Hp → Prop
  yld : Nat → Hp → V → Hp → Prop
  stop : Nat → Hp → Prop
/-- the iterator's own objects may turn: they are not the frame's, not pinned, younger than the entry (or a comprehension's own) -/
def FpOk (X : Cx) (pins : List (Addr × Obj)) (H : Hp) (b : Addr) : Prop :=
  H b = none ∧ b ≠ X.env.locals ∧ b ∉ X.fs ∧ (b ∈ X.ex ∨ X.s₀.heap.objs.size ≤ b) ∧ (∀ x c, X.env.cells.lookup x = some c → c ≠ b) ∧ ∀ p ∈ X.pn ++ pins, p.1 ≠ b
theorem Inv.fpOk {X : Cx} {pins : List (Addr × Obj)} {σ : St} {H H' : Hp} {s : Shared} {b : Addr} (I : Inv X pins σ H s) (hb : s.heap.objs.size ≤ b) (hn : H' b = none) : FpOk X pins H' b := by
  refine ⟨hn, Nat.ne_of_gt (Nat.lt_of_lt_of_le I.lt hb), I.nofs hb, .inr (Nat.le_trans I.sz hb), fun x c e z => ?_, fun p hp z => ?_⟩
  · obtain ⟨v, q⟩ := I.cell x c e
    exact absurd (Nat.lt_of_lt_of_le q.lt (by rw [z]; exact hb)) (Nat.lt_irrefl _)
  · exact absurd (Nat.lt_of_lt_of_le (Heap.lt_size (I.pin p hp).1) (by rw [z]; exact hb)) (Nat.lt_irrefl _)
structure Turn (P : Program) (w : World) (K : PySem.W.Frag) (tg : Expr) (J : It) (fp : List Addr) (it : Addr) (tn : Nat → Heap → Prop) : Prop where
  mem : it ∈ fp
  obj : ∀ i h, tn i h → ∀ b ∈ fp, ∃ o, h.get? b = some o ∧ ∀ v, o.data ≠ .cell v
  keep : ∀ i h h', tn i h → (∀ b ∈ fp, ∀ o, h.get? b = some o → h'.get? b = some o) → tn i h'
  item : ∀ (X : Cx), X.prog = P → X.w = w → X.K = K → X.calm = true → ∀ (i : Nat) (pins : List (Addr × Obj)) (s : Shared) (σ : St) (H : Hp) (E : Value → Shared → Prop), Inv X pins σ H s → (∀ b ∈ fp, FpOk X pins H b) → tn i s.heap → J.go i H →
    wpAny (model P w) X.A (pyNext (.ref it)) (fun r s1 => ∃ u, r = some u ∧
      wpAny (model P w) X.A (letOwnedTupleGo tg (.ref it) u) (fun _ s2 => ∃ x H', Inv X pins σ H' s2 ∧ RelV x u ∧ J.yld i H x H' ∧ tn (i + 1) s2.heap ∧ ∀ b ∈ fp, H' b = none) E s1) E s
  done : ∀ (X : Cx), X.prog = P → X.w = w → X.K = K → X.calm = true → ∀ (i : Nat) (pins : List (Addr × Obj)) (s : Shared) (σ : St) (H : Hp) (E : Value → Shared → Prop), Inv X pins σ H s → (∀ b ∈ fp, FpOk X pins H b) → tn i s.heap → J.stop i H →
    wpAny (model P w) X.A (pyNext (.ref it)) (fun r s1 => r = none ∧ Inv X pins σ H s1) E s
  self : ∀ (A : Around) (i : Nat) (s : Shared) (Q : Value → Shared → Prop) (E : Value → Shared → Prop), tn i s.heap → Q (.ref it) s → wpAny (model P w) A (pyIter (.ref it)) Q E s
abbrev TI := St → Hp → (It → Hp → Prop) → Prop
/-- an iterator has come -/
def PIE (X : Cx) (pins : List (Addr × Obj)) (σ : St) (tg : Expr) (R : It → Hp → Prop) (itv : Value) (s2 : Shared) : Prop :=
  ∃ (it : Addr) (fp : List Addr) (tn : Nat → Heap → Prop) (J : It) (H' : Hp), itv = .ref it ∧ Inv X pins σ H' s2 ∧ Turn X.prog X.w X.K tg J fp it tn ∧ tn 0 s2.heap ∧ (∀ b ∈ fp, FpOk X pins H' b) ∧ R J H'
def PI (X : Cx) (tg iter : Expr) (wi : TI) : Prop :=
  ∀ (pins : List (Addr × Obj)) (s : Shared) (σ : St) (H : Hp) (R : It → Hp → Prop), Inv X pins σ H s → wi σ H R →
    wpAny (model X.prog X.w) X.A (eval iter X.env) (fun v s1 => wpAny (model X.prog X.w) X.A (pyIter v) (PIE X pins σ tg R) X.xe s1) X.xe s

/-- the step ahead of the store is nothing for an iterator that keeps no tuple -/
theorem go_of {M : Model} {A : Around} {E : Value → Shared → Prop} {s : Shared} {tg : Expr} {it : Addr} {u : Value} {o : Obj} {n : String} {vs : Array Value} {Q : Unit → Shared → Prop} (ho : s.heap.get? it = some o) (hc : o.cls = .type n) (hd : o.data = .fields vs)
    (hn : ["enumerate", "zip", "dict_itemiterator", "dict_reverseitemiterator", "odict_iterator", "itertools.zip_longest", "itertools.pairwise"].contains n = false) (hQ : Q () s) : wpAny M A (letOwnedTupleGo tg (.ref it) u) Q E s := by
  unfold letOwnedTupleGo
  cases tg <;> first
    | exact wpAny_pure hQ
    | (cases u <;> first
        | exact wpAny_pure hQ
        | (refine wpAny_bind (wpAny_load ho ?_)
           rw [hc, hd]
           show wpAny M A (if (["enumerate", "zip", "dict_itemiterator", "dict_reverseitemiterator", "odict_iterator", "itertools.zip_longest", "itertools.pairwise"].contains n && vs[0]? == some (rawInt _)) = true then _ else _) Q E s
           rw [if_neg (by intro h; rw [hn, Bool.false_and] at h; cases h)]
           exact wpAny_pure hQ))

/-- the list at a, as it stands at each turn (a loop may append to it) -/
def Itl (K : PySem.W.Frag) (a : Addr) : It :=
  ⟨fun i H => ∃ xs x, SqL K H a xs ∧ xs[i]? = some x, fun i H x H' => H' = H ∧ ∀ xs, SqL K H a xs → xs[i]? = some x, fun i H => ∃ xs, SqL K H a xs ∧ xs.length ≤ i⟩
def Itt (K : PySem.W.Frag) (a : Addr) : It :=
  ⟨fun i H => ∃ xs x, SqT K H a xs ∧ xs[i]? = some x, fun i H x H' => H' = H ∧ ∀ xs, SqT K H a xs → xs[i]? = some x, fun i H => ∃ xs, SqT K H a xs ∧ xs.length ≤ i⟩
/-- lo, lo + 1, .. (n of them) -/
def Itr (lo : Int) (n : Nat) : It := ⟨fun i _ => i < n, fun i H x H' => H' = H ∧ x = .int (lo + i), fun i _ => n ≤ i⟩
theorem turn_list {P : Program} {w : World} {K : PySem.W.Frag} {tg : Expr} (a it : Addr) : Turn P w K tg (Itl K a) [it] it (fun i h => h.IsListIter it a i) where
  mem := by simp
  obj := fun i h st b hb => by
    have e : b = it := by simpa using hb
    subst e
    obtain ⟨o, e, c, d⟩ := st
    exact ⟨o, e, fun v z => by rw [d] at z; cases z⟩
  keep := fun i h h' st k => st.at fun o e => k it (by simp) o e
  item := by
    intro X hP hw hK hc i pins s σ H E I hf st hg
    subst hP hw hK
    obtain ⟨xs, x, hq, hx⟩ := hg
    obtain ⟨its, rv, p, hz⟩ := I.list hq
    obtain ⟨u, hu, ru⟩ := rv.get hx
    obtain ⟨f0, f1, f2, f3, f4, f5⟩ := hf it (by simp)
    refine wpAny_pyNext_list_item st p.isList (x := u) (by simpa using hu) fun h' st' sb => ?_
    have I1 : Inv X pins σ H { s with heap := h' } := I.turned (t' := s.toks) (fun b o hb e => (sb.2 b hb).trans e) f0 f1 f3 f4 f5
    obtain ⟨o, e, c, d⟩ := id st'
    exact ⟨u, rfl, go_of (s := { s with heap := h' }) e c d (by decide) ⟨x, H, I1, ru, ⟨rfl, fun ys hy => by rw [I.list_inj hy hq]; exact hx⟩, st', fun b hb => (hf b hb).1⟩⟩
  done := by
    intro X hP hw hK hc i pins s σ H E I hf st hg
    subst hP hw hK
    obtain ⟨xs, hq, hx⟩ := hg
    obtain ⟨its, rv, p, hz⟩ := I.list hq
    obtain ⟨f0, f1, f2, f3, f4, f5⟩ := hf it (by simp)
    have hl := rv.length
    exact wpAny_pyNext_list_end (I.ok.hd hc) st p.isList (by simp; omega) fun h' eb => ⟨rfl, I.turned (t' := s.toks) (fun b o hb e => eb b o hb e) f0 f1 f3 f4 f5⟩
  self := fun _ _ _ _ _ st h => wpAny_pyIter_listiter st h
theorem turn_tuple {P : Program} {w : World} {K : PySem.W.Frag} {tg : Expr} (a it : Addr) : Turn P w K tg (Itt K a) [it] it (fun i h => h.IsTupleIter it a i) where
  mem := by simp
  obj := fun i h st b hb => by
    have e : b = it := by simpa using hb
    subst e
    obtain ⟨o, e, c, d⟩ := st
    exact ⟨o, e, fun v z => by rw [d] at z; cases z⟩
  keep := fun i h h' st k => st.at fun o e => k it (by simp) o e
  item := by
    intro X hP hw hK hc i pins s σ H E I hf st hg
    subst hP hw hK
    obtain ⟨xs, x, hq, hx⟩ := hg
    obtain ⟨its, rv, p, hz⟩ := I.tuple hq
    obtain ⟨u, hu, ru⟩ := rv.get hx
    obtain ⟨f0, f1, f2, f3, f4, f5⟩ := hf it (by simp)
    refine wpAny_pyNext_tuple_item st (show s.heap.IsTuple a its.toArray from p) (x := u) (by simpa using hu) fun h' st' sb => ?_
    have I1 : Inv X pins σ H { s with heap := h' } := I.turned (t' := s.toks) (fun b o hb e => (sb.2 b hb).trans e) f0 f1 f3 f4 f5
    obtain ⟨o, e, c, d⟩ := id st'
    exact ⟨u, rfl, go_of (s := { s with heap := h' }) e c d (by decide) ⟨x, H, I1, ru, ⟨rfl, fun ys hy => by rw [I.tuple_inj hy hq]; exact hx⟩, st', fun b hb => (hf b hb).1⟩⟩
  done := by
    intro X hP hw hK hc i pins s σ H E I hf st hg
    subst hP hw hK
    obtain ⟨xs, hq, hx⟩ := hg
    obtain ⟨its, rv, p, hz⟩ := I.tuple hq
    obtain ⟨f0, f1, f2, f3, f4, f5⟩ := hf it (by simp)
    have hl := rv.length
    exact wpAny_pyNext_tuple_end (I.ok.hd hc) st (show s.heap.IsTuple a its.toArray from p) (by simp; omega) fun h' eb => ⟨rfl, I.turned (t' := s.toks) (fun b o hb e => eb b o hb e) f0 f1 f3 f4 f5⟩
  self := fun _ _ _ _ _ st h => wpAny_pyIter_tupleiter st h
theorem turn_range {P : Program} {w : World} {K : PySem.W.Frag} {tg : Expr} (it : Addr) (lo : Int) (n : Nat) : Turn P w K tg (Itr lo n) [it] it (fun i h => IsRangeIter h it (lo + (i : Nat) * 1) ((n : Int) - (i : Nat)) 1) where
  mem := by simp
  obj := fun i h st b hb => by
    have e : b = it := by simpa using hb
    subst e
    exact ⟨_, st, fun v z => by
      have z' : Data.fields _ = Data.cell v := z
      cases z'⟩
  keep := fun i h h' st k => k it (by simp) _ st
  item := by
    intro X hP hw hK hc i pins s σ H E I hf st hg
    subst hP hw hK
    obtain ⟨f0, f1, f2, f3, f4, f5⟩ := hf it (by simp)
    have W := Walks.range (prog := X.prog) (w := X.w) (I.ok.hd hc) it lo 1 n
    refine W.item i s _ _ hg st fun v h' tk hv st' kk => ?_
    obtain ⟨t, rfl⟩ := hv
    have I1 : Inv X pins σ H { s with heap := h', toks := tk } := I.turned (fun b o hb e => kk b o (by simpa using hb) e) f0 f1 f3 f4 f5
    refine ⟨_, rfl, go_of (s := { s with heap := h', toks := tk }) (n := "range_iterator") st' rfl rfl (by decide) ⟨.int (lo + i), H, I1, ⟨t, ?_⟩, ⟨rfl, rfl⟩, st', fun b hb => (hf b hb).1⟩⟩
    rw [Int.mul_one]
  done := by
    intro X hP hw hK hc i pins s σ H E I hf st hg
    subst hP hw hK
    obtain ⟨f0, f1, f2, f3, f4, f5⟩ := hf it (by simp)
    exact wpAny_pyNext_range_end (I.ok.hd hc) st (by have : n ≤ i := hg; omega) fun h' eb => ⟨rfl, I.turned (t' := s.toks) (fun b o hb e => eb b o hb e) f0 f1 f3 f4 f5⟩
  self := fun _ _ _ _ _ st h => wpAny_pyIter_rangeiter st h
end L2

namespace L2
open PySem PySem.Spec PyProof.Rows
section
variable {X : Cx} {tg : Expr}
def iList (K : PySem.W.Frag) (tl : TE) : TI := fun σ H R => tl σ H fun x H1 => ∃ a, x = .ref a ∧ (∃ xs, SqL K H1 a xs) ∧ R (Itl K a) H1
def iTup (K : PySem.W.Frag) (tl : TE) : TI := fun σ H R => tl σ H fun x H1 => ∃ a, x = .ref a ∧ (∃ xs, SqT K H1 a xs) ∧ R (Itt K a) H1
theorem pi_list {l : Expr} {tl : TE} (hl : PE X l tl) : PI X tg l (iList X.K tl) := by
  intro pins s σ H R I h
  refine thn (hl pins s σ H _ I h) fun v s1 ⟨x, H1, I1, r1, q1⟩ => ?_
  obtain ⟨a, e, ⟨xs, hq⟩, q⟩ := q1
  subst e
  cases r1
  obtain ⟨its, rv, p, hz⟩ := I1.list hq
  refine wpAny_pyIter_list p.isList ?_
  refine ⟨s1.heap.objs.size, [s1.heap.objs.size], _, _, H1, rfl, I1.kept (t' := s1.toks) fun b o e => Heap.get?_push_of_some _ e, turn_list a _, ⟨_, Heap.get?_push_size _ rfl, rfl, rfl⟩, fun b hb => ?_, q⟩
  have e : b = s1.heap.objs.size := by simpa using hb
  subst e
  exact I1.fpOk (Nat.le_refl _) (I1.hok.fresh (Nat.le_refl _))
theorem pi_tup {l : Expr} {tl : TE} (hl : PE X l tl) : PI X tg l (iTup X.K tl) := by
  intro pins s σ H R I h
  refine thn (hl pins s σ H _ I h) fun v s1 ⟨x, H1, I1, r1, q1⟩ => ?_
  obtain ⟨a, e, ⟨xs, hq⟩, q⟩ := q1
  subst e
  cases r1
  obtain ⟨its, rv, p, hz⟩ := I1.tuple hq
  refine wpAny_pyIter_tuple (show s1.heap.IsTuple a its.toArray from p) ?_
  refine ⟨s1.heap.objs.size, [s1.heap.objs.size], _, _, H1, rfl, I1.kept (t' := s1.toks) fun b o e => Heap.get?_push_of_some _ e, turn_tuple a _, ⟨_, Heap.get?_push_size _ rfl, rfl, rfl⟩, fun b hb => ?_, q⟩
  have e : b = s1.heap.objs.size := by simpa using hb
  subst e
  exact I1.fpOk (Nat.le_refl _) (I1.hok.fresh (Nat.le_refl _))
/-- a range object just made, walked -/
theorem range_it {pins : List (Addr × Obj)} {σ : St} {H : Hp} {s : Shared} {R : It → Hp → Prop} {E : Value → Shared → Prop} {lo hi : Int} {t u v : Tok} {tk : Nat} (I : Inv X pins σ H s) (h1 : -(2 ^ 62) ≤ lo) (h2 : lo < 2 ^ 62) (h3 : -(2 ^ 62) ≤ hi) (h4 : hi < 2 ^ 62)
    (q : R (Itr lo (hi - lo).toNat) H) : wpAny (model X.prog X.w) X.A (pyIter (.ref s.heap.objs.size)) (PIE X pins σ tg R) E { s with heap := s.heap.push { cls := .type "range", data := .fields #[.int lo t, .int hi u, .int 1 v] }, toks := tk } := by
  refine wpAny_pyIter_range (IsRange.new ..) (small_one h1 h2 h3 h4) ?_
  have I1 : Inv X pins σ H { s with heap := s.heap.push { cls := .type "range", data := .fields #[.int lo t, .int hi u, .int 1 v] }, toks := tk } := I.kept fun b o e => Heap.get?_push_of_some _ e
  refine ⟨(s.heap.push { cls := .type "range", data := .fields #[.int lo t, .int hi u, .int 1 v] }).objs.size, [(s.heap.push { cls := .type "range", data := .fields #[.int lo t, .int hi u, .int 1 v] }).objs.size], _, _, H, rfl,
    I1.kept (t' := tk) fun b o e => Heap.get?_push_of_some _ e, turn_range _ lo (hi - lo).toNat, ?_, fun b hb => ?_, q⟩
  · have e1 : lo + ((0 : Nat) : Int) * 1 = lo := by simp
    have e2 : (((hi - lo).toNat : Nat) : Int) - ((0 : Nat) : Int) = Builtin.Range.rangeSize lo hi 1 := by rw [rangeSize_one]; split <;> omega
    show IsRangeIter _ _ (lo + ((0 : Nat) : Int) * 1) ((((hi - lo).toNat : Nat) : Int) - ((0 : Nat) : Int)) 1
    rw [e1, e2]
    exact Heap.get?_push_size _ rfl
  · have e : b = (s.heap.push { cls := .type "range", data := .fields #[.int lo t, .int hi u, .int 1 v] }).objs.size := by simpa using hb
    subst e
    exact I1.fpOk (Nat.le_refl _) (I1.hok.fresh (Nat.le_refl _))
def iRng1 (ta : TA) : TI := fun σ H R => ta σ H fun vs H1 => ∃ j : Int, vs = [.int j] ∧ -(2 ^ 62) ≤ j ∧ j < 2 ^ 62 ∧ R (Itr 0 j.toNat) H1
def iRng2 (ta : TA) : TI := fun σ H R => ta σ H fun vs H1 => ∃ i j : Int, vs = [.int i, .int j] ∧ (-(2 ^ 62) ≤ i ∧ i < 2 ^ 62 ∧ -(2 ^ 62) ≤ j ∧ j < 2 ^ 62) ∧ R (Itr i (j - i).toNat) H1
theorem pi_range1 {a : Expr} {ta : TA} {p pos : Pos} (hg : Gl X "range") (hm : X.mg "range" = none) (ha : PA X [a] ta) (hs : starEach [a] X.env = [(false, eval a X.env)] := by rfl) : PI X tg (.Call (.Name "range" p) [a] [] pos) (iRng1 ta) := by
  intro pins s σ H R I h
  refine Call_ (ld_blt I hg hm boot_range (PyProof.Rows.callWith_type1 (thn (ha pos pins s σ H _ I h) fun us s1 ⟨vs, H1, I1, r1, q1⟩ => ?_) hs rfl))
  obtain ⟨j, e, q1, q2, q⟩ := q1
  subst e
  cases r1 with
  | cons r rr =>
    cases rr
    obtain ⟨t, rfl⟩ := r
    exact call_range_1 (range_it I1 (by omega) (by omega) q1 q2 (by simpa using q))
theorem pi_range2 {a b : Expr} {ta : TA} {p pos : Pos} (hg : Gl X "range") (hm : X.mg "range" = none) (ha : PA X [a, b] ta) (hs : starEach [a, b] X.env = [(false, eval a X.env), (false, eval b X.env)] := by rfl) (hs2 : starEach [b] X.env = [(false, eval b X.env)] := by rfl) :
    PI X tg (.Call (.Name "range" p) [a, b] [] pos) (iRng2 ta) := by
  intro pins s σ H R I h
  refine Call_ (ld_blt I hg hm boot_range (PyProof.Rows.callWith_type1 (thn (ha pos pins s σ H _ I h) fun us s1 ⟨vs, H1, I1, r1, q1⟩ => ?_) (by rw [hs, hs2]) (by rw [hs2]; rfl)))
  obtain ⟨i, j, e, ⟨q1, q2, q3, q4⟩, q⟩ := q1
  subst e
  cases r1 with
  | cons r rr =>
    cases rr with
    | cons r' rr =>
      cases rr
      obtain ⟨t, rfl⟩ := r
      obtain ⟨t', rfl⟩ := r'
      exact call_range_2 (range_it I1 q1 q2 q3 q4 q)

/-! ### for -/
/-- W: the invariant by the turn and a measure; N: what the body is to reach -/
def tFor (wi : TI) (g : TG) (tb : TS) : TS := fun D σ H => wi σ H fun J H1 => ∃ W : Nat → Nat → St → Hp → Prop, (∃ m, W 0 m σ H1) ∧ ∀ i m σ H, W i m σ H →
  (J.stop i H ∧ D.nx σ H) ∨ (J.go i H ∧ ∃ N : St → Hp → Prop, (∀ σ' H', N σ' H' → ∃ m', m' < m ∧ W (i + 1) m' σ' H') ∧ ∀ x H', J.yld i H x H' → g x σ H' fun σ2 H2 => tb { D with nx := N, ct := N, bk := D.nx } σ2 H2)
/-- the records at fp as they stand -/
def pinsAt (fp : List Addr) (h : Heap) : List (Addr × Obj) := fp.filterMap fun b => (h.get? b).map fun o => (b, o)
theorem mem_pinsAt {fp : List Addr} {h : Heap} {b : Addr} {o : Obj} (hb : b ∈ fp) (e : h.get? b = some o) : (b, o) ∈ pinsAt fp h := List.mem_filterMap.mpr ⟨b, hb, by rw [e]; rfl⟩
theorem of_pinsAt {fp : List Addr} {h : Heap} {p : Addr × Obj} (hp : p ∈ pinsAt fp h) : p.1 ∈ fp ∧ h.get? p.1 = some p.2 := by
  obtain ⟨b, hb, e⟩ := List.mem_filterMap.mp hp
  cases q : h.get? b with
  | none => rw [q] at e; cases e
  | some o =>
    rw [q] at e
    have e' : (b, o) = p := Option.some.inj e
    subst e'
    exact ⟨hb, q⟩
theorem Inv.pinned {pins : List (Addr × Obj)} {σ : St} {H : Hp} {s : Shared} {fp : List Addr} (I : Inv X pins σ H s) (hf : ∀ b ∈ fp, FpOk X pins H b) (ho : ∀ b ∈ fp, ∃ o, s.heap.get? b = some o ∧ ∀ v, o.data ≠ .cell v) : Inv X (pins ++ pinsAt fp s.heap) σ H s :=
  I.pins_of fun p hp => (List.mem_append.mp hp).elim (fun z => I.pin p (List.mem_append_right _ z)) fun z => by
    obtain ⟨hb, e⟩ := of_pinsAt z
    obtain ⟨f0, f1, f2, _⟩ := hf p.1 hb
    obtain ⟨o, e', d⟩ := ho p.1 hb
    rw [e] at e'; cases e'
    exact ⟨e, f0, f1, f2, d⟩
theorem Inv.unpinned {pins pl : List (Addr × Obj)} {σ : St} {H : Hp} {s : Shared} (I : Inv X (pins ++ pl) σ H s) : Inv X pins σ H s := I.pins_of fun p hp => I.pin p (List.mem_append_right _ (List.mem_append_left _ hp))
theorem ps_for {iter : Expr} {body : List Stmt} {wi : TI} {g : TG} {tb : TS} {pos : Pos} (hp : PassesOwn (model X.prog X.w) X.A X.env X.xe) (hc : X.calm = true) (hi : PI X tg iter wi) (hg : PG X tg g) (hb : PSs X body tb)
    (hs : ∀ x, foldedSetIterable iter X.env x = pure x := by intro _; rfl) : PS X (.For tg iter body [] pos) (tFor wi g tb) := by
  intro pins s σ H D I h
  refine wpAny_For (thn (hi pins s σ H _ I h) fun v s1 h1 => thn h1 fun itv s2 h2 => ?_) hs
  obtain ⟨it, fp, tn, J, H2, e, I2, T, st2, f2, W, ⟨m0, w0⟩, turn⟩ := h2
  subst e
  -- what stays true of the iterator's objects through the loop
  have stat : ∀ {H' : Hp}, (∀ b ∈ fp, H' b = none) → ∀ b ∈ fp, FpOk X pins H' b := fun hn b hb => ⟨hn b hb, (f2 b hb).2⟩
  refine codeAny_forLoop_any (fun n s' => ∃ i σ' H', Inv X pins σ' H' s' ∧ tn i s'.heap ∧ (∀ b ∈ fp, H' b = none) ∧ W i n σ' H') ?_ m0 ⟨0, σ, H2, I2, st2, fun b hb => (f2 b hb).1, w0⟩
  rintro n s3 ⟨i, σ3, H3, I3, st3, fr3, w3⟩
  rcases turn i n σ3 H3 w3 with ⟨stop, qn⟩ | ⟨go, N, hN, step⟩
  · refine wpAny_passesOwn hp (thn (T.done X rfl rfl rfl hc i pins s3 σ3 H3 X.xe I3 (stat fr3) st3 stop) fun r s4 ⟨hr, I4⟩ => ?_)
    subst hr
    exact wpAny_execs_nil ⟨σ3, H3, I4, qn⟩
  · refine wpAny_passesOwn hp (thn (T.item X rfl rfl rfl hc i pins s3 σ3 H3 X.xe I3 (stat fr3) st3 go) fun r s4 ⟨u, hr, h4⟩ => ?_)
    subst hr
    refine wpAny_passesOwn hp (thn h4 fun _ s5 ⟨x, H5, I5, r5, y5, st5, fr5⟩ => ?_)
    have I5' := I5.pinned (stat fr5) (T.obj _ _ st5)
    refine wpAny_passesOwn hp (thn (hg _ s5 σ3 H5 x u _ I5' r5 (step x H5 y5)) fun _ s6 ⟨σ6, H6, I6, q6⟩ => ?_)
    refine wpAny_passesOwn hp (thn (hb _ s6 σ6 H6 _ I6 q6) fun f s7 q7 => ?_)
    have again : ∀ {σ7 : St} {H7 : Hp}, Inv X (pins ++ pinsAt fp s5.heap) σ7 H7 s7 → N σ7 H7 → ∃ m, m < n ∧ ∃ i σ' H', Inv X pins σ' H' s7 ∧ tn i s7.heap ∧ (∀ b ∈ fp, H' b = none) ∧ W i m σ' H' := fun {σ7 H7} I7 n7 => by
      obtain ⟨m', hm, w7⟩ := hN σ7 H7 n7
      refine ⟨m', hm, i + 1, σ7, H7, I7.unpinned, T.keep _ _ _ st5 fun b hb o e => (I7.pin (b, o) (List.mem_append_right _ (List.mem_append_right _ (mem_pinsAt hb e)))).1, fun b hb => ?_, w7⟩
      obtain ⟨o, e, d⟩ := T.obj _ _ st5 b hb
      exact (I7.pin (b, o) (List.mem_append_right _ (List.mem_append_right _ (mem_pinsAt hb e)))).2.1
    cases f with
    | next => obtain ⟨σ7, H7, I7, n7⟩ := q7; exact again I7 n7
    | cont => obtain ⟨σ7, H7, I7, n7⟩ := q7; exact again I7 n7
    | brk => obtain ⟨σ7, H7, I7, q7⟩ := q7; exact ⟨σ7, H7, I7.unpinned, q7⟩
    | ret v => obtain ⟨x7, σ7, H7, I7, r7, q7⟩ := q7; exact ⟨x7, σ7, H7, I7.unpinned, r7, q7⟩
end

/-! ### the forms one uses -/
/-- over a list that the body leaves as it is -/
theorem for_list {K : PySem.W.Frag} {a : Addr} {xs : List V} {g : TG} {tb : TS} {D : Ends} {σ : St} {H : Hp} (Pv : Nat → St → Hp → Prop) (h0 : Pv 0 σ H) (hl : ∀ i σ H, i ≤ xs.length → Pv i σ H → SqL K H a xs)
    (hs : ∀ i x σ H, xs[i]? = some x → Pv i σ H → g x σ H fun σ2 H2 => tb { D with nx := Pv (i + 1), ct := Pv (i + 1), bk := D.nx } σ2 H2) (hd : ∀ σ H, Pv xs.length σ H → D.nx σ H) :
    ∃ W : Nat → Nat → St → Hp → Prop, (∃ m, W 0 m σ H) ∧ ∀ i m σ H, W i m σ H →
      ((Itl K a).stop i H ∧ D.nx σ H) ∨ ((Itl K a).go i H ∧ ∃ N : St → Hp → Prop, (∀ σ' H', N σ' H' → ∃ m', m' < m ∧ W (i + 1) m' σ' H') ∧ ∀ x H', (Itl K a).yld i H x H' → g x σ H' fun σ2 H2 => tb { D with nx := N, ct := N, bk := D.nx } σ2 H2) := by
  refine ⟨fun i m σ H => m = xs.length - i ∧ i ≤ xs.length ∧ Pv i σ H, ⟨xs.length, by simp, Nat.zero_le _, h0⟩, ?_⟩
  rintro i m σ H ⟨rfl, hi, p⟩
  have q := hl i σ H hi p
  by_cases hlt : i < xs.length
  · refine .inr ⟨⟨xs, xs[i], q, by simp [hlt]⟩, Pv (i + 1), fun σ' H' p' => ⟨xs.length - (i + 1), by omega, rfl, hlt, p'⟩, fun x H' y => ?_⟩
    obtain ⟨e, y⟩ := y
    subst e
    exact hs i x σ _ (y xs q) p
  · have e : i = xs.length := by omega
    subst e
    exact .inl ⟨⟨xs, q, Nat.le_refl _⟩, hd σ H p⟩
theorem for_tup {K : PySem.W.Frag} {a : Addr} {xs : List V} {g : TG} {tb : TS} {D : Ends} {σ : St} {H : Hp} (Pv : Nat → St → Hp → Prop) (h0 : Pv 0 σ H) (hl : ∀ i σ H, i ≤ xs.length → Pv i σ H → SqT K H a xs)
    (hs : ∀ i x σ H, xs[i]? = some x → Pv i σ H → g x σ H fun σ2 H2 => tb { D with nx := Pv (i + 1), ct := Pv (i + 1), bk := D.nx } σ2 H2) (hd : ∀ σ H, Pv xs.length σ H → D.nx σ H) :
    ∃ W : Nat → Nat → St → Hp → Prop, (∃ m, W 0 m σ H) ∧ ∀ i m σ H, W i m σ H →
      ((Itt K a).stop i H ∧ D.nx σ H) ∨ ((Itt K a).go i H ∧ ∃ N : St → Hp → Prop, (∀ σ' H', N σ' H' → ∃ m', m' < m ∧ W (i + 1) m' σ' H') ∧ ∀ x H', (Itt K a).yld i H x H' → g x σ H' fun σ2 H2 => tb { D with nx := N, ct := N, bk := D.nx } σ2 H2) := by
  refine ⟨fun i m σ H => m = xs.length - i ∧ i ≤ xs.length ∧ Pv i σ H, ⟨xs.length, by simp, Nat.zero_le _, h0⟩, ?_⟩
  rintro i m σ H ⟨rfl, hi, p⟩
  have q := hl i σ H hi p
  by_cases hlt : i < xs.length
  · refine .inr ⟨⟨xs, xs[i], q, by simp [hlt]⟩, Pv (i + 1), fun σ' H' p' => ⟨xs.length - (i + 1), by omega, rfl, hlt, p'⟩, fun x H' y => ?_⟩
    obtain ⟨e, y⟩ := y
    subst e
    exact hs i x σ _ (y xs q) p
  · have e : i = xs.length := by omega
    subst e
    exact .inl ⟨⟨xs, q, Nat.le_refl _⟩, hd σ H p⟩
theorem for_range {lo : Int} {n : Nat} {g : TG} {tb : TS} {D : Ends} {σ : St} {H : Hp} (Pv : Nat → St → Hp → Prop) (h0 : Pv 0 σ H)
    (hs : ∀ i σ H, i < n → Pv i σ H → g (.int (lo + i)) σ H fun σ2 H2 => tb { D with nx := Pv (i + 1), ct := Pv (i + 1), bk := D.nx } σ2 H2) (hd : ∀ σ H, Pv n σ H → D.nx σ H) :
    ∃ W : Nat → Nat → St → Hp → Prop, (∃ m, W 0 m σ H) ∧ ∀ i m σ H, W i m σ H →
      ((Itr lo n).stop i H ∧ D.nx σ H) ∨ ((Itr lo n).go i H ∧ ∃ N : St → Hp → Prop, (∀ σ' H', N σ' H' → ∃ m', m' < m ∧ W (i + 1) m' σ' H') ∧ ∀ x H', (Itr lo n).yld i H x H' → g x σ H' fun σ2 H2 => tb { D with nx := N, ct := N, bk := D.nx } σ2 H2) := by
  refine ⟨fun i m σ H => m = n - i ∧ i ≤ n ∧ Pv i σ H, ⟨n, by simp, Nat.zero_le _, h0⟩, ?_⟩
  rintro i m σ H ⟨rfl, hi, p⟩
  by_cases hlt : i < n
  · refine .inr ⟨hlt, Pv (i + 1), fun σ' H' p' => ⟨n - (i + 1), by omega, rfl, hlt, p'⟩, fun x H' y => ?_⟩
    obtain ⟨e, y⟩ := y
    subst e y
    exact hs i σ _ hlt p
  · have e : i = n := by omega
    subst e
    exact .inl ⟨Nat.le_refl _, hd σ H p⟩
/-- while, by a word and a measure of the state -/
theorem while_by {c : TT} {tb : TS} {D : Ends} {σ : St} {H : Hp} (Pv : St → Hp → Prop) (μ : St → Hp → Nat) (h0 : Pv σ H)
    (hs : ∀ σ H, Pv σ H → c σ H fun b H1 => if b = true then tb { D with nx := fun σ' H' => Pv σ' H' ∧ μ σ' H' < μ σ H, ct := fun σ' H' => Pv σ' H' ∧ μ σ' H' < μ σ H, bk := D.nx } σ H1 else D.nx σ H1)
    (mono : ∀ σ H Q Q', (∀ b H1, Q b H1 → Q' b H1) → c σ H Q → c σ H Q') : tWhile c tb D σ H := by
  refine ⟨fun m σ H => m = μ σ H ∧ Pv σ H, ⟨_, rfl, h0⟩, ?_⟩
  rintro m σ H ⟨rfl, p⟩
  refine mono σ H _ _ (fun b H1 q => ?_) (hs σ H p)
  cases b with
  | true => exact ⟨_, fun σ' H' ⟨p', l⟩ => ⟨_, l, rfl, p'⟩, q⟩
  | false => exact q
end L2

namespace L2
open PySem PySem.Spec PyProof.Rows

abbrev R2 := V → V → Hp → VK → Prop
/-- a two-place operation on values: f is binaryOp op, inplaceOp op or compareOp op -/
def OpR (X : Cx) (f : Value → Value → Sem Value) (r : R2) : Prop :=
  ∀ (pins : List (Addr × Obj)) (s : Shared) (σ : St) (H : Hp) (x y : V) (v u : Value) (Q : VK), Inv X pins σ H s → RelV x v → RelV y u → r x y H Q →
    wpAny (model X.prog X.w) X.A (f v u) (EP X pins σ Q) X.xe s
/-- a one-place operation -/
def UnR (X : Cx) (f : Value → Sem Value) (r : V → Hp → VK → Prop) : Prop :=
  ∀ (pins : List (Addr × Obj)) (s : Shared) (σ : St) (H : Hp) (x : V) (v : Value) (Q : VK), Inv X pins σ H s → RelV x v → r x H Q →
    wpAny (model X.prog X.w) X.A (f v) (EP X pins σ Q) X.xe s
/-- a call of a value that is known (a builtin, a type) with values -/
def CallR (X : Cx) (f : Value) (r : List V → Hp → VK → Prop) : Prop :=
  ∀ (pins : List (Addr × Obj)) (s : Shared) (σ : St) (H : Hp) (xs : List V) (us : List Value) (Q : VK), Inv X pins σ H s → Vals xs us → r xs H Q →
    wpAny (model X.prog X.w) X.A (call f us) (EP X pins σ Q) X.xe s
/-- a value's truth -/
def TruR (X : Cx) (r : V → Hp → (Bool → Hp → Prop) → Prop) : Prop :=
  ∀ (pins : List (Addr × Obj)) (s : Shared) (σ : St) (H : Hp) (x : V) (v : Value) (Q : Bool → Hp → Prop), Inv X pins σ H s → RelV x v → r x H Q →
    wpAny (model X.prog X.w) X.A (truthy v) (TP X pins σ Q) X.xe s

def tOp (r : R2) (ta tb : TE) : TE := fun σ H Q => ta σ H fun x H1 => tb σ H1 fun y H2 => r x y H2 Q
def tUn (r : V → Hp → VK → Prop) (ta : TE) : TE := fun σ H Q => ta σ H fun x H1 => r x H1 Q
/-- ints in, under C, and a value out -/
def rI (C : Int → Int → Prop) (g : Int → Int → V) : R2 := fun x y H Q => ∃ i j, x = .int i ∧ y = .int j ∧ C i j ∧ Q (g i j) H
def rI0 (g : Int → Int → V) : R2 := fun x y H Q => ∃ i j, x = .int i ∧ y = .int j ∧ Q (g i j) H
def rU (g : Int → V) : V → Hp → VK → Prop := fun x H Q => ∃ i, x = .int i ∧ Q (g i) H

section
variable {X : Cx} {a b c : Expr} {ta tb tc : TE} {pos : Pos}

theorem binT (ha : PE X a ta) (hb : PE X b tb) {pins : List (Addr × Obj)} {s : Shared} {σ : St} {H : Hp} {R : V → V → Hp → Prop} (I : Inv X pins σ H s)
    (h : ta σ H fun x H1 => tb σ H1 fun y H2 => R x y H2) {Q : Value → Shared → Prop} {f : Value → Value → Sem Value}
    (hf : ∀ v u s2 x y H2, Inv X pins σ H2 s2 → RelV x v → RelV y u → R x y H2 → wpAny (model X.prog X.w) X.A (f v u) Q X.xe s2) :
    wpAny (model X.prog X.w) X.A (eval a X.env) (fun v s₁ => wpAny (model X.prog X.w) X.A (eval b X.env) (fun u s₂ => wpAny (model X.prog X.w) X.A (f v u) Q X.xe s₂) X.xe s₁) X.xe s := by
  refine thn (ha pins s σ H _ I h) fun v s1 ⟨x, H1, I1, r1, q1⟩ => ?_
  refine thn (hb pins s1 σ H1 _ I1 q1) fun u s2 ⟨y, H2, I2, r2, q2⟩ => ?_
  exact hf v u s2 x y H2 I2 r1 r2 q2

theorem pe_op {op : Operator} {r : R2} (ho : OpR X (binaryOp op) r) (ha : PE X a ta) (hb : PE X b tb) : PE X (.BinOp a op b pos) (tOp r ta tb) := by
  intro pins s σ H Q I h
  exact wpAny_BinOp (binT ha hb I h fun v u s2 x y H2 I2 rx ry q => ho pins s2 σ H2 x y v u Q I2 rx ry q)
theorem pe_un {op : UnaryOp} {r : V → Hp → VK → Prop} (ho : UnR X (unaryOp op) r) (ha : PE X a ta) : PE X (.UnaryOp op a pos) (tUn r ta) := by
  intro pins s σ H Q I h
  exact UnaryOp_ (thn (ha pins s σ H _ I h) fun v s1 ⟨x, H1, I1, r1, q1⟩ => ho pins s1 σ H1 x v Q I1 r1 q1)
/-- a op= e at a name: the name's slot i -/
theorem augR {op : Operator} {r : R2} (ho : OpR X (inplaceOp op) r) {pins : List (Addr × Obj)} {s : Shared} {σ : St} {H : Hp} {x y : V} {v u : Value} {Q : VK} (I : Inv X pins σ H s)
    (rx : RelV x v) (ry : RelV y u) (q : r x y H Q) : wpAny (model X.prog X.w) X.A (inplaceOp op v u) (EP X pins σ Q) X.xe s := ho pins s σ H x y v u Q I rx ry q

/-! ### ints -/
theorem opI {f : Value → Value → Sem Value} {C : Int → Int → Prop} {g : Int → Int → Int}
    (rule : ∀ (i j : Int) (t u : Tok) (s : Shared) (Q : Value → Shared → Prop) (E : Value → Shared → Prop), C i j → Q (.int (g i j) s.toks) { s with toks := s.toks + 1 } → wpAny (model X.prog X.w) X.A (f (.int i t) (.int j u)) Q E s) :
    OpR X f (rI C fun i j => .int (g i j)) := by
  intro pins s σ H x y v u Q I rx ry h
  obtain ⟨i, j, rfl, rfl, hc, q⟩ := h
  obtain ⟨t, rfl⟩ := rx
  obtain ⟨t', rfl⟩ := ry
  exact rule i j t t' s _ _ hc ⟨.int (g i j), H, I.tok _, ⟨_, rfl⟩, q⟩
theorem opI0 {f : Value → Value → Sem Value} {g : Int → Int → Int}
    (rule : ∀ (i j : Int) (t u : Tok) (s : Shared) (Q : Value → Shared → Prop) (E : Value → Shared → Prop), Q (.int (g i j) s.toks) { s with toks := s.toks + 1 } → wpAny (model X.prog X.w) X.A (f (.int i t) (.int j u)) Q E s) :
    OpR X f (rI0 fun i j => .int (g i j)) := by
  intro pins s σ H x y v u Q I rx ry h
  obtain ⟨i, j, rfl, rfl, q⟩ := h
  obtain ⟨t, rfl⟩ := rx
  obtain ⟨t', rfl⟩ := ry
  exact rule i j t t' s _ _ ⟨.int (g i j), H, I.tok _, ⟨_, rfl⟩, q⟩
theorem opB0 {f : Value → Value → Sem Value} {g : Int → Int → Bool}
    (rule : ∀ (i j : Int) (t u : Tok) (s : Shared) (Q : Value → Shared → Prop) (E : Value → Shared → Prop), Q (.bool (g i j)) s → wpAny (model X.prog X.w) X.A (f (.int i t) (.int j u)) Q E s) :
    OpR X f (rI0 fun i j => .bl (g i j)) := by
  intro pins s σ H x y v u Q I rx ry h
  obtain ⟨i, j, rfl, rfl, q⟩ := h
  obtain ⟨t, rfl⟩ := rx
  obtain ⟨t', rfl⟩ := ry
  exact rule i j t t' s _ _ ⟨.bl (g i j), H, I, rfl, q⟩

def CDiv (i j : Int) : Prop := 0 < j ∧ j < 1073741824
def CDivN (i j : Int) : Prop := j ≠ 0 ∧ j.natAbs < 1073741824
def CPow (i j : Int) : Prop := 0 ≤ j ∧ j ≤ 1000000 ∧ i.natAbs < 2 ^ 64
def CMul (i j : Int) : Prop := (-(2 ^ 64) < i ∧ i < 2 ^ 64) ∨ (-(2 ^ 64) < j ∧ j < 2 ^ 64)
theorem CMul.ok {i j : Int} (h : CMul i j) : IntMulOk i j := by
  rcases h with ⟨h1, h2⟩ | ⟨h1, h2⟩
  · exact .of_left (intBits_le_64 h1 h2)
  · exact .of_right (intBits_le_64 h1 h2)
theorem two_pow_nn (k : Nat) : (0 : Int) ≤ 2 ^ k := by
  rw [two_pow_cast]
  exact Int.natCast_nonneg _

theorem op_add : OpR X (binaryOp .Add) (rI0 fun i j => .int (i + j)) := opI0 fun _ _ _ _ _ _ _ q => add_int q
theorem op_sub : OpR X (binaryOp .Sub) (rI0 fun i j => .int (i - j)) := opI0 fun _ _ _ _ _ _ _ q => sub_int q
theorem op_mul : OpR X (binaryOp .Mult) (rI CMul fun i j => .int (i * j)) := opI fun _ _ _ _ _ _ _ hc q => mul_int q hc.ok
/-- // by a positive divisor -/
theorem op_fdiv : OpR X (binaryOp .FloorDiv) (rI CDiv fun i j => .int (i / j)) := opI fun i j _ _ _ _ _ hc q => by
  have h1 : (0 : Int) < j := hc.1
  have h2 : j < 1073741824 := hc.2
  exact floordiv_int (by omega) (by rw [Int.fdiv_eq_ediv_of_nonneg i (by omega)]; exact q) (.inl (PyProof.noPylong_small (by omega)))
theorem op_fdivN : OpR X (binaryOp .FloorDiv) (rI CDivN fun i j => .int (i.fdiv j)) := opI fun _ _ _ _ _ _ _ hc q => floordiv_int hc.1 q (.inl (PyProof.noPylong_small hc.2))
/-- % by a positive divisor of any size -/
theorem op_mod : OpR X (binaryOp .Mod) (rI (fun _ j => 0 < j) fun i j => .int (i % j)) := opI fun i j _ _ _ _ _ hc q => by
  have h1 : (0 : Int) < j := hc
  exact mod_int' (by omega) (by rw [Int.fmod_eq_emod_of_nonneg i (by omega)]; exact q)
theorem op_modN : OpR X (binaryOp .Mod) (rI (fun _ j => j ≠ 0) fun i j => .int (i.fmod j)) := opI fun _ _ _ _ _ _ _ hc q => mod_int' hc q
theorem op_pow : OpR X (binaryOp .Pow) (rI CPow fun i j => .int (i ^ j.toNat)) := opI fun _ _ _ _ _ _ _ hc q => pow_int_small hc.1 hc.2.1 hc.2.2 q
theorem op_shl : OpR X (binaryOp .LShift) (rI CPow fun i j => .int (i * 2 ^ j.toNat)) := opI fun _ _ _ _ _ _ _ hc q => lshift_int_small hc.1 hc.2.1 hc.2.2 q
theorem op_shr : OpR X (binaryOp .RShift) (rI (fun _ j => 0 ≤ j) fun i j => .int (i / 2 ^ j.toNat)) := opI fun i j _ _ _ _ _ hc q =>
  rshift_int hc (by rw [Int.fdiv_eq_ediv_of_nonneg i (two_pow_nn _)]; exact q)
theorem op_and : OpR X (binaryOp .BitAnd) (rI0 fun i j => .int (Builtin.bitAnd i j)) := opI0 fun _ _ _ _ _ _ _ q => and_int q
theorem op_or : OpR X (binaryOp .BitOr) (rI0 fun i j => .int (Builtin.bitOr i j)) := opI0 fun _ _ _ _ _ _ _ q => or_int q
theorem op_xor : OpR X (binaryOp .BitXor) (rI0 fun i j => .int (Builtin.bitXor i j)) := opI0 fun _ _ _ _ _ _ _ q => xor_int q

theorem iop_add : OpR X (inplaceOp .Add) (rI0 fun i j => .int (i + j)) := opI0 fun _ _ _ _ _ _ _ q => iadd_int q
theorem iop_sub : OpR X (inplaceOp .Sub) (rI0 fun i j => .int (i - j)) := opI0 fun _ _ _ _ _ _ _ q => isub_int q
theorem iop_mul : OpR X (inplaceOp .Mult) (rI CMul fun i j => .int (i * j)) := opI fun _ _ _ _ _ _ _ hc q => imul_int q hc.ok
theorem iop_fdiv : OpR X (inplaceOp .FloorDiv) (rI CDiv fun i j => .int (i / j)) := opI fun i j _ _ _ _ _ hc q => by
  have h1 : (0 : Int) < j := hc.1
  have h2 : j < 1073741824 := hc.2
  exact ifloordiv_int (by omega) (by rw [Int.fdiv_eq_ediv_of_nonneg i (by omega)]; exact q) (.inl (PyProof.noPylong_small (by omega)))
theorem iop_mod : OpR X (inplaceOp .Mod) (rI (fun _ j => 0 < j) fun i j => .int (i % j)) := opI fun i j _ _ _ _ _ hc q => by
  have h1 : (0 : Int) < j := hc
  exact imod_int (by omega) (by rw [Int.fmod_eq_emod_of_nonneg i (by omega)]; exact q)
theorem iop_shl : OpR X (inplaceOp .LShift) (rI CPow fun i j => .int (i * 2 ^ j.toNat)) := opI fun _ _ _ _ _ _ _ hc q => ilshift_int_small hc.1 hc.2.1 hc.2.2 q
theorem iop_shr : OpR X (inplaceOp .RShift) (rI (fun _ j => 0 ≤ j) fun i j => .int (i / 2 ^ j.toNat)) := opI fun i j _ _ _ _ _ hc q =>
  irshift_int hc (by rw [Int.fdiv_eq_ediv_of_nonneg i (two_pow_nn _)]; exact q)
theorem iop_and : OpR X (inplaceOp .BitAnd) (rI0 fun i j => .int (Builtin.bitAnd i j)) := opI0 fun _ _ _ _ _ _ _ q => iand_int q
theorem iop_or : OpR X (inplaceOp .BitOr) (rI0 fun i j => .int (Builtin.bitOr i j)) := opI0 fun _ _ _ _ _ _ _ q => ior_int q
theorem iop_xor : OpR X (inplaceOp .BitXor) (rI0 fun i j => .int (Builtin.bitXor i j)) := opI0 fun _ _ _ _ _ _ _ q => ixor_int q

theorem unI {f : Value → Sem Value} {g : Int → Int}
    (rule : ∀ (i : Int) (t : Tok) (s : Shared) (Q : Value → Shared → Prop) (E : Value → Shared → Prop), Q (.int (g i) s.toks) { s with toks := s.toks + 1 } → wpAny (model X.prog X.w) X.A (f (.int i t)) Q E s) :
    UnR X f (rU fun i => .int (g i)) := by
  intro pins s σ H x v Q I rx h
  obtain ⟨i, rfl, q⟩ := h
  obtain ⟨t, rfl⟩ := rx
  exact rule i t s _ _ ⟨.int (g i), H, I.tok _, ⟨_, rfl⟩, q⟩
theorem un_neg : UnR X (unaryOp .USub) (rU fun i => .int (-i)) := unI fun _ _ _ _ _ q => neg_int q
theorem un_inv : UnR X (unaryOp .Invert) (rU fun i => .int (Builtin.bitNot i)) := unI fun _ _ _ _ _ q => invert_int q

/-! ### bools among ints: n += (a < b) -/
theorem op_add_ib : OpR X (binaryOp .Add) (fun x y H Q => ∃ i k, x = .int i ∧ y = .bl k ∧ Q (.int (i + b2i k)) H) := by
  intro pins s σ H x y v u Q I rx ry h
  obtain ⟨i, k, rfl, rfl, q⟩ := h
  obtain ⟨t, rfl⟩ := rx
  cases ry
  exact add_int_bool ⟨.int (i + b2i k), H, I.tok _, ⟨_, rfl⟩, q⟩
end

/-! ### comparisons -/
/-- the scalars that == tells apart as data does -/
def scal : V → V → Bool
  | .non, .non => true | .non, .int _ => true | .int _, .non => true | .non, .bl _ => true | .bl _, .non => true | .non, .str _ => true | .str _, .non => true
  | .int _, .int _ => true | .bl _, .bl _ => true | .str _, .str _ => true | .byt _, .byt _ => true
  | .int _, .str _ => true | .str _, .int _ => true | .bl _, .str _ => true | .str _, .bl _ => true
  | _, _ => false
def rEq : R2 := fun x y H Q => scal x y = true ∧ Q (.bl (decide (x = y))) H
def rNe : R2 := fun x y H Q => scal x y = true ∧ Q (.bl (!decide (x = y))) H

theorem dec_int {i j : Int} : decide (V.int i = V.int j) = (i == j) := by
  rw [Bool.eq_iff_iff]
  simp
theorem dec_bl {i j : Bool} : decide (V.bl i = V.bl j) = (i == j) := by
  rw [Bool.eq_iff_iff]
  simp
theorem dec_str {i j : Str} : decide (V.str i = V.str j) = (i == j) := by
  rw [Bool.eq_iff_iff]
  simp
theorem dec_byt {i j : Array UInt8} : decide (V.byt i = V.byt j) = (i.toList == j.toList) := by
  rw [Bool.eq_iff_iff]
  cases i
  cases j
  simp

section
variable {X : Cx} {a b c : Expr} {ta tb tc : TE} {pos : Pos}
theorem fin_bl {pins : List (Addr × Obj)} {σ : St} {H : Hp} {s : Shared} {Q : VK} {k k' : Bool} (I : Inv X pins σ H s) (q : Q (.bl k) H) (e : k = k') : EP X pins σ Q (.bool k') s := by
  subst e
  exact ⟨.bl k, H, I, rfl, q⟩
theorem op_eq : OpR X (compareOp .Eq) rEq := by
  intro pins s σ H x y v u Q I rx ry h
  obtain ⟨hs, q⟩ := h
  cases x with
  | non =>
    cases rx
    cases y with
    | non => cases ry; exact PySem.EqNone.eq_none_none (fin_bl I q (by simp))
    | bl j => cases ry; exact PySem.EqNone.eq_none_bool (fin_bl I q (by simp))
    | int j => obtain ⟨t', rfl⟩ := ry; exact PySem.EqNone.eq_none_int (fin_bl I q (by simp))
    | str j => obtain ⟨t', rfl⟩ := ry; exact PySem.EqNone.eq_none_str (fin_bl I q (by simp))
    | _ => exact absurd (show false = true from hs) Bool.false_ne_true
  | bl i =>
    cases rx
    cases y with
    | non => cases ry; exact PySem.EqNone.eq_bool_none (fin_bl I q (by simp))
    | bl j => cases ry; exact eq_bool (fin_bl I q dec_bl)
    | str j => obtain ⟨t', rfl⟩ := ry; exact PySem.EqMixed.eq_bool_str (fin_bl I q (by simp))
    | _ => exact absurd (show false = true from hs) Bool.false_ne_true
  | int i =>
    obtain ⟨t, rfl⟩ := rx
    cases y with
    | non => cases ry; exact PySem.EqNone.eq_int_none (fin_bl I q (by simp))
    | int j => obtain ⟨t', rfl⟩ := ry; exact eq_int (fin_bl I q dec_int)
    | str j => obtain ⟨t', rfl⟩ := ry; exact PySem.EqMixed.eq_int_str (fin_bl I q (by simp))
    | _ => exact absurd (show false = true from hs) Bool.false_ne_true
  | str i =>
    obtain ⟨t, rfl⟩ := rx
    cases y with
    | non => cases ry; exact PySem.EqNone.eq_str_none (fin_bl I q (by simp))
    | bl j => cases ry; exact PySem.EqMixed.eq_str_bool (fin_bl I q (by simp))
    | int j => obtain ⟨t', rfl⟩ := ry; exact PySem.EqMixed.eq_str_int (fin_bl I q (by simp))
    | str j => obtain ⟨t', rfl⟩ := ry; exact eq_str (fin_bl I q dec_str)
    | _ => exact absurd (show false = true from hs) Bool.false_ne_true
  | byt i =>
    obtain ⟨t, rfl⟩ := rx
    cases y with
    | byt j => obtain ⟨t', rfl⟩ := ry; exact PySem.W.eq_bytes (fin_bl I q dec_byt)
    | _ => exact absurd (show false = true from hs) Bool.false_ne_true
  | _ => cases y <;> exact absurd (show false = true from hs) Bool.false_ne_true
theorem op_ne : OpR X (compareOp .NotEq) rNe := by
  intro pins s σ H x y v u Q I rx ry h
  obtain ⟨hs, q⟩ := h
  cases x with
  | non =>
    cases rx
    cases y with
    | non => cases ry; exact PySem.EqNone.ne_none_none (fin_bl I q (by simp))
    | bl j => cases ry; exact PySem.EqNone.ne_none_bool (fin_bl I q (by simp))
    | int j => obtain ⟨t', rfl⟩ := ry; exact PySem.EqNone.ne_none_int (fin_bl I q (by simp))
    | str j => obtain ⟨t', rfl⟩ := ry; exact PySem.EqNone.ne_none_str (fin_bl I q (by simp))
    | _ => exact absurd (show false = true from hs) Bool.false_ne_true
  | bl i =>
    cases rx
    cases y with
    | non => cases ry; exact PySem.EqNone.ne_bool_none (fin_bl I q (by simp))
    | bl j => cases ry; exact ne_bool (fin_bl I q (congrArg not dec_bl))
    | str j => obtain ⟨t', rfl⟩ := ry; exact PySem.EqMixed.ne_bool_str (fin_bl I q (by simp))
    | _ => exact absurd (show false = true from hs) Bool.false_ne_true
  | int i =>
    obtain ⟨t, rfl⟩ := rx
    cases y with
    | non => cases ry; exact PySem.EqNone.ne_int_none (fin_bl I q (by simp))
    | int j => obtain ⟨t', rfl⟩ := ry; exact ne_int (fin_bl I q (congrArg not dec_int))
    | str j => obtain ⟨t', rfl⟩ := ry; exact PySem.EqMixed.ne_int_str (fin_bl I q (by simp))
    | _ => exact absurd (show false = true from hs) Bool.false_ne_true
  | str i =>
    obtain ⟨t, rfl⟩ := rx
    cases y with
    | non => cases ry; exact PySem.EqNone.ne_str_none (fin_bl I q (by simp))
    | bl j => cases ry; exact PySem.EqMixed.ne_str_bool (fin_bl I q (by simp))
    | int j => obtain ⟨t', rfl⟩ := ry; exact PySem.EqMixed.ne_str_int (fin_bl I q (by simp))
    | str j => obtain ⟨t', rfl⟩ := ry; exact ne_str (fin_bl I q (congrArg not dec_str))
    | _ => exact absurd (show false = true from hs) Bool.false_ne_true
  | byt i =>
    obtain ⟨t, rfl⟩ := rx
    cases y with
    | byt j => obtain ⟨t', rfl⟩ := ry; exact PySem.W.ne_bytes (fin_bl I q (congrArg not dec_byt))
    | _ => exact absurd (show false = true from hs) Bool.false_ne_true
  | _ => cases y <;> exact absurd (show false = true from hs) Bool.false_ne_true

theorem op_lt : OpR X (compareOp .Lt) (rI0 fun i j => .bl (decide (i < j))) := opB0 fun _ _ _ _ _ _ _ q => lt_int q
theorem op_le : OpR X (compareOp .LtE) (rI0 fun i j => .bl (decide (i ≤ j))) := opB0 fun _ _ _ _ _ _ _ q => le_int q
theorem op_gt : OpR X (compareOp .Gt) (rI0 fun i j => .bl (decide (j < i))) := opB0 fun _ _ _ _ _ _ _ q => gt_int q
theorem op_ge : OpR X (compareOp .GtE) (rI0 fun i j => .bl (decide (j ≤ i))) := opB0 fun _ _ _ _ _ _ _ q => ge_int q
theorem op_lt_str : OpR X (compareOp .Lt) (fun x y H Q => ∃ i j, x = .str i ∧ y = .str j ∧ Q (.bl (decide (i.cps.toList < j.cps.toList))) H) := by
  intro pins s σ H x y v u Q I rx ry h
  obtain ⟨i, j, rfl, rfl, q⟩ := h
  obtain ⟨t, rfl⟩ := rx
  obtain ⟨t', rfl⟩ := ry
  exact lt_str (fin_bl I q rfl)
/-- the one string within the other -/
theorem op_in_str : OpR X (compareOp .In) (fun x y H Q => ∃ i j, x = .str i ∧ y = .str j ∧ Q (.bl (!(Builtin.Str.occurrences j i 0 j.length 1).isEmpty)) H) := by
  intro pins s σ H x y v u Q I rx ry h
  obtain ⟨i, j, rfl, rfl, q⟩ := h
  obtain ⟨t, rfl⟩ := rx
  obtain ⟨t', rfl⟩ := ry
  exact in_str (fin_bl I q rfl)

/-- is None, is not None: the right side a value none -/
theorem op_isN : OpR X (compareOp .Is) (fun x y H Q => y = .non ∧ Q (.bl (decide (x = .non))) H) := by
  intro pins s σ H x y v u Q I rx ry h
  obtain ⟨rfl, q⟩ := h
  cases ry
  refine is_none_gen (fin_bl I q ?_)
  cases x <;> first
    | (cases rx; rfl)
    | (obtain ⟨t, rfl⟩ := rx; rfl)
theorem op_notN : OpR X (compareOp .IsNot) (fun x y H Q => y = .non ∧ Q (.bl (!decide (x = .non))) H) := by
  intro pins s σ H x y v u Q I rx ry h
  obtain ⟨rfl, q⟩ := h
  cases ry
  refine isnot_none_gen (fin_bl I q ?_)
  cases x <;> first
    | (cases rx; rfl)
    | (obtain ⟨t, rfl⟩ := rx; rfl)

theorem op_notin_str : OpR X (compareOp .NotIn) (fun x y H Q => ∃ i j, x = .str i ∧ y = .str j ∧ Q (.bl (!(!(Builtin.Str.occurrences j i 0 j.length 1).isEmpty))) H) := by
  intro pins s σ H x y v u Q I rx ry h
  obtain ⟨i, j, rfl, rfl, q⟩ := h
  obtain ⟨t, rfl⟩ := rx
  obtain ⟨t', rfl⟩ := ry
  exact notIn_str (fin_bl I q rfl)
/-- is, is not of two objects that are tracked lists or instances -/
def isObj : HO → Bool
  | .lst _ => true
  | .ins _ _ _ => true
  | _ => false
theorem obj_there {pins : List (Addr × Obj)} {s : Shared} {σ : St} {H : Hp} {a : Addr} {o : HO} (I : Inv X pins σ H s) (h : H a = some o) (p : isObj o = true) : ∃ ob, s.heap.get? a = some ob ∧ ob.cls ≠ .type "tuple" := by
  cases o with
  | lst xs =>
    obtain ⟨_, its, n, _, e⟩ : xs.length ≤ sizeLine ∧ ∃ (its : List Value) (n : Nat), Vals xs its ∧ s.heap.get? a = some { cls := .type "list", data := .seq its.toArray n } := I.hok a _ h
    exact ⟨_, e, (by show Value.type "list" ≠ .type "tuple"; decide +kernel)⟩
  | ins C dx fs =>
    have x := I.hok a _ h
    obtain ⟨_, _, _, e, _⟩ := x
    exact ⟨_, e, (by show Value.ref C ≠ .type "tuple"; exact fun z => by cases z)⟩
  | _ => exact absurd (show false = true from p) Bool.false_ne_true
theorem op_is_ref : OpR X (compareOp .Is) (fun x y H Q => ∃ a b oa ob, x = .ref a ∧ y = .ref b ∧ H a = some oa ∧ isObj oa = true ∧ H b = some ob ∧ isObj ob = true ∧ Q (.bl (decide (a = b))) H) := by
  intro pins s σ H x y v u Q I rx ry h
  obtain ⟨a, b, oa, ob, rfl, rfl, ha, pa, hb, pb, q⟩ := h
  cases rx
  cases ry
  obtain ⟨o1, e1, n1⟩ := obj_there I ha pa
  obtain ⟨o2, e2, _⟩ := obj_there I hb pb
  by_cases z : a = b
  · subst z
    exact wpAny_is_ref_self (fin_bl I q (by simp))
  · exact wpAny_is_ref_other z e1 e2 n1 (fin_bl I q (by simp [z]))
theorem op_isnot_ref : OpR X (compareOp .IsNot) (fun x y H Q => ∃ a b oa ob, x = .ref a ∧ y = .ref b ∧ H a = some oa ∧ isObj oa = true ∧ H b = some ob ∧ isObj ob = true ∧ Q (.bl (!decide (a = b))) H) := by
  intro pins s σ H x y v u Q I rx ry h
  obtain ⟨a, b, oa, ob, rfl, rfl, ha, pa, hb, pb, q⟩ := h
  cases rx
  cases ry
  obtain ⟨o1, e1, n1⟩ := obj_there I ha pa
  obtain ⟨o2, e2, _⟩ := obj_there I hb pb
  by_cases z : a = b
  · subst z
    exact wpAny_isNot_ref_self (fin_bl I q (by simp))
  · exact wpAny_isNot_ref_other z e1 e2 n1 (fin_bl I q (by simp [z]))

/-- two rules for one operation: by cases -/
theorem OpR.or {f : Value → Value → Sem Value} {r r' : R2} (h : OpR X f r) (h' : OpR X f r') : OpR X f (fun x y H Q => r x y H Q ∨ r' x y H Q) := by
  intro pins s σ H x y v u Q I rx ry q
  rcases q with q | q
  · exact h pins s σ H x y v u Q I rx ry q
  · exact h' pins s σ H x y v u Q I rx ry q

theorem nomark (b : Expr) {op : CmpOp} (h : op ≠ .In := by decide) (h2 : op ≠ .NotIn := by decide) : behindInMarks op b = false := by
  have e1 : (op == CmpOp.In) = false := by cases op <;> first | rfl | exact absurd rfl h
  have e2 : (op == CmpOp.NotIn) = false := by cases op <;> first | rfl | exact absurd rfl h2
  cases b <;> simp [behindInMarks, e1, e2]
/-- a comparison as a value; hm: nomark b, or (for in, not in) by with_unfolding_all rfl -/
theorem pe_cmpR {op : CmpOp} {r : R2} (ho : OpR X (compareOp op) r) (ha : PE X a ta) (hb : PE X b tb) (hm : behindInMarks op b = false) : PE X (.Compare a [op] [b] pos) (tOp r ta tb) := by
  intro pins s σ H Q I h
  exact wpAny_Compare1 (binT ha hb I h fun v u s2 x y H2 I2 rx ry q => ho pins s2 σ H2 x y v u Q I2 rx ry q) hm
/-- a reading of a value as a test -/
def tTest (t : TE) : TT := fun σ H Q => t σ H fun x H' => ∃ k, x = .bl k ∧ Q k H'
theorem pt_cmpR {op : CmpOp} {r : R2} (ho : OpR X (compareOp op) r) (ha : PE X a ta) (hb : PE X b tb) (hm : behindInMarks op b = false) : PT X (.Compare a [op] [b] pos) (tTest (tOp r ta tb)) := by
  intro pins s σ H Q I h
  refine wpAny_isTrue_Compare1 (thn (ha pins s σ H _ I h) fun v s1 ⟨x, H1, I1, r1, q1⟩ => thn (hb pins s1 σ H1 _ I1 q1) fun u s2 ⟨y, H2, I2, r2, q2⟩ =>
    thn (ho pins s2 σ H2 x y v u _ I2 r1 r2 q2) fun c s3 ⟨z, H3, I3, r3, k, e, q3⟩ => ?_) hm
  subst e
  cases r3
  exact wpAny_truthy_bool ⟨H3, I3, q3⟩
/-- a op1 b op2 c -/
def tChain (r r' : R2) (ta tb tc : TE) : TE := fun σ H Q => ta σ H fun x H1 => tb σ H1 fun y H2 => r x y H2 fun z H3 => ∃ k, z = .bl k ∧
  (if k = true then tc σ H3 fun w' H4 => r' y w' H4 Q else Q (.bl false) H3)
theorem pe_chain {op op' : CmpOp} {r r' : R2} (ho : OpR X (compareOp op) r) (ho' : OpR X (compareOp op') r') (ha : PE X a ta) (hb : PE X b tb) (hc : PE X c tc)
    (hm : lastMarks [op, op'] [b, c] = false := by with_unfolding_all rfl) : PE X (.Compare a [op, op'] [b, c] pos) (tChain r r' ta tb tc) := by
  intro pins s σ H Q I h
  refine Compare_chain (thn (ha pins s σ H _ I h) fun v s1 ⟨x, H1, I1, r1, q1⟩ => chain_link (thn (hb pins s1 σ H1 _ I1 q1) fun u s2 ⟨y, H2, I2, r2, q2⟩ =>
    thn (ho pins s2 σ H2 x y v u _ I2 r1 r2 q2) fun d s3 ⟨z, H3, I3, r3, k, e, q3⟩ => ?_)) hm
  subst e
  cases r3
  refine wpAny_truthy_bool ?_
  cases k with
  | false => exact ite_ff ⟨.bl false, H3, I3, rfl, q3⟩
  | true => exact ite_tt (chain_last (thn (hc pins s3 σ H3 _ I3 q3) fun w' s4 ⟨z', H4, I4, r4, q4⟩ => ho' pins s4 σ H4 y z' u w' Q I4 r2 r4 q4))
theorem pt_chain {op op' : CmpOp} {r r' : R2} (ho : OpR X (compareOp op) r) (ho' : OpR X (compareOp op') r') (ha : PE X a ta) (hb : PE X b tb) (hc : PE X c tc)
    (hm : lastMarks [op, op'] [b, c] = false := by with_unfolding_all rfl) : PT X (.Compare a [op, op'] [b, c] pos) (tTest (tChain r r' ta tb tc)) := by
  intro pins s σ H Q I h
  refine isTrue_chain (thn (ha pins s σ H _ I h) fun v s1 ⟨x, H1, I1, r1, q1⟩ => test_link (thn (hb pins s1 σ H1 _ I1 q1) fun u s2 ⟨y, H2, I2, r2, q2⟩ =>
    thn (ho pins s2 σ H2 x y v u _ I2 r1 r2 q2) fun d s3 ⟨z, H3, I3, r3, k, e, q3⟩ => ?_)) hm
  subst e
  cases r3
  refine wpAny_truthy_bool ?_
  cases k with
  | false =>
    obtain ⟨k', e', q'⟩ := q3
    cases e'
    exact ite_ff ⟨H3, I3, q'⟩
  | true =>
    refine ite_tt (test_last (thn (hc pins s3 σ H3 _ I3 q3) fun w' s4 ⟨z', H4, I4, r4, q4⟩ => thn (ho' pins s4 σ H4 y z' u w' _ I4 r2 r4 q4) fun d' s5 ⟨z2, H5, I5, r5, k2, e2, q5⟩ => ?_))
    subst e2
    cases r5
    exact wpAny_truthy_bool ⟨H5, I5, q5⟩

/-! ### truth -/
/-- a value's truth by the abstract heap -/
def TruV (K : PySem.W.Frag) (x : V) (H : Hp) (k : Bool) : Prop :=
  match x with
  | .non => k = false
  | .bl b => k = b
  | .int i => k = (i != 0)
  | .str y => y.length ≤ sizeLine ∧ k = ((y.length : Int) != 0)
  | .byt y => y.size ≤ sizeLine ∧ k = ((y.size : Int) != 0)
  | .ref p => (∃ xs, SqL K H p xs ∧ k = !xs.isEmpty) ∨ (∃ xs, SqT K H p xs ∧ k = !xs.isEmpty) ∨ ∃ kvs, H p = some (.dK kvs) ∧ k = !kvs.isEmpty
  | _ => False
theorem isEmpty_kv {κ : Type} {kvs : List (κ × V)} {vs : List (κ × Value)} (r : KV kvs vs) : (!vs.isEmpty) = !kvs.isEmpty := by
  cases r <;> rfl
theorem isEmpty_of {xs : List V} {its : List Value} (r : Vals xs its) : (!its.toArray.isEmpty) = !xs.isEmpty := by
  cases r <;> simp
theorem line63 : (sizeLine : Nat) < 2 ^ 63 := by rw [sizeLine_eq]; decide
theorem tru_ok : TruR X (fun x H Q => ∃ k, TruV X.K x H k ∧ Q k H) := by
  intro pins s σ H x v Q I rx h
  obtain ⟨k, e, q⟩ := h
  have hl := line63
  have hs : sizeLine = 16777216 := sizeLine_eq
  cases x with
  | non =>
    cases rx
    have e' : k = false := e
    subst e'
    exact truthy_none ⟨H, I, q⟩
  | bl b =>
    cases rx
    have e' : k = b := e
    subst e'
    exact wpAny_truthy_bool ⟨H, I, q⟩
  | int i =>
    obtain ⟨t, rfl⟩ := rx
    have e' : k = (i != 0) := e
    subst e'
    exact PySem.P.truthy_int ⟨H, I, q⟩
  | str y =>
    obtain ⟨t, rfl⟩ := rx
    obtain ⟨hy, e'⟩ : y.length ≤ sizeLine ∧ k = ((y.length : Int) != 0) := e
    subst e'
    exact PySem.P.truthy_str (by omega) ⟨H, I.tok _, q⟩
  | byt y =>
    obtain ⟨t, rfl⟩ := rx
    obtain ⟨hy, e'⟩ : y.size ≤ sizeLine ∧ k = ((y.size : Int) != 0) := e
    subst e'
    exact PySem.W.truthy_bytes (by omega) ⟨H, I.tok _, q⟩
  | ref p =>
    cases rx
    have e' : (∃ xs, SqL X.K H p xs ∧ k = !xs.isEmpty) ∨ (∃ xs, SqT X.K H p xs ∧ k = !xs.isEmpty) ∨ ∃ kvs, H p = some (.dK kvs) ∧ k = !kvs.isEmpty := e
    rcases e' with ⟨xs, hx, e'⟩ | ⟨xs, hx, e'⟩ | ⟨kvs, hx, e'⟩
    · subst e'
      obtain ⟨its, r, pl, hz⟩ := I.list hx
      have hlen := r.length
      exact wpAny_truthy_list pl.isList (by simp only [List.size_toArray]; omega) ⟨H, I.tok _, by rw [isEmpty_of r]; exact q⟩
    · subst e'
      obtain ⟨its, r, pl, hz⟩ := I.tuple hx
      have hlen := r.length
      exact truthy_tuple pl (by simp only [List.size_toArray]; omega) ⟨H, I.tok _, by rw [isEmpty_of r]; exact q⟩
    · subst e'
      obtain ⟨hz, hS, vs, r, m⟩ : kvs.length ≤ sizeLine ∧ (p == sysModules) = false ∧ ∃ vs, KV kvs vs ∧ s.heap.DictOf (mixKind X.prog X.w) p vs := I.hok p _ hx
      have hlen : kvs.length = vs.length := Paired.length r
      exact wpAny_truthy_dict hS m (by omega) ⟨H, I.tok _, by rw [isEmpty_kv r]; exact q⟩
  | _ => exact (show False from e).elim
/-- any expression whose test is its value's truth (a name, a call, a subscript, a field ..: he by fun _ => rfl) -/
theorem pt_truth (ha : PE X a ta) (he : ∀ whole, isTrue a X.env whole = (do let v ← whole; standAt a.pos; holding [v] (truthy v))) :
    PT X a (fun σ H Q => ta σ H fun x H' => ∃ k, TruV X.K x H' k ∧ Q k H') := by
  intro pins s σ H Q I h
  exact isTrue_plain (thn (ha pins s σ H _ I h) fun v s1 ⟨x, H1, I1, r1, q1⟩ => tru_ok pins s1 σ H1 x v Q I1 r1 q1) (he _)

/-! ### strs and bytes -/
theorem pe_byt {x : List UInt8} {k : Nat} : PE X (.Constant (.bytes x) k pos) (fun _ H Q => Q (.byt x.toArray) H) := fun _ _ _ H _ I h => PySem.W.Constant_bytes ⟨.byt x.toArray, H, I.tok _, ⟨_, rfl⟩, h⟩
theorem op_add_str : OpR X (binaryOp .Add) (fun x y H Q => ∃ i j, x = .str i ∧ y = .str j ∧ i.length + j.length ≤ sizeLine ∧ Q (.str (i ++ j)) H) := by
  intro pins s σ H x y v u Q I rx ry h
  obtain ⟨i, j, rfl, rfl, hz, q⟩ := h
  obtain ⟨t, rfl⟩ := rx
  obtain ⟨t', rfl⟩ := ry
  exact add_str (fun t' tk => ⟨.str (i ++ j), H, I.tok _, ⟨_, rfl⟩, q⟩) hz
theorem iop_add_str : OpR X (inplaceOp .Add) (fun x y H Q => ∃ i j, x = .str i ∧ y = .str j ∧ i.length + j.length ≤ sizeLine ∧ Q (.str (i ++ j)) H) := by
  intro pins s σ H x y v u Q I rx ry h
  obtain ⟨i, j, rfl, rfl, hz, q⟩ := h
  obtain ⟨t, rfl⟩ := rx
  obtain ⟨t', rfl⟩ := ry
  exact iadd_str (fun t' tk => ⟨.str (i ++ j), H, I.tok _, ⟨_, rfl⟩, q⟩) hz
theorem op_add_byt : OpR X (binaryOp .Add) (fun x y H Q => ∃ i j, x = .byt i ∧ y = .byt j ∧ i.size + j.size ≤ 16777216 ∧ Q (.byt (i ++ j)) H) := by
  intro pins s σ H x y v u Q I rx ry h
  obtain ⟨i, j, rfl, rfl, hz, q⟩ := h
  obtain ⟨t, rfl⟩ := rx
  obtain ⟨t', rfl⟩ := ry
  exact PySem.W.KBy.add_bytes hz (fun t' tk => ⟨.byt (i ++ j), H, I.tok _, ⟨_, rfl⟩, q⟩)

def PlainIxT (b : Expr) : Prop := ∀ o i, subscripted b false o i = operate [o, i] (getItem o i)
/-- s[i], 0 ≤ i < len -/
theorem pe_item_str (ha : PE X a ta) (hb : PE X b tb) (hs : PlainIxT b) :
    PE X (.Subscript a b pos) (tOp (fun x y H Q => ∃ z i c, x = .str z ∧ y = .int i ∧ 0 ≤ i ∧ i < 2 ^ 63 ∧ i < z.length ∧ z.cps[i.toNat]? = some c ∧ Q (.str ⟨#[c]⟩) H) ta tb) := by
  intro pins s σ H Q I h
  refine Subscript_ (binT ha hb I h fun v u s2 x y H2 I2 rx ry q => ?_)
  obtain ⟨z, i, c, rfl, rfl, h0, h63, h1, hc, q⟩ := q
  obtain ⟨t, rfl⟩ := rx
  obtain ⟨t', rfl⟩ := ry
  have e : seqIndex? i z.length = some i.toNat := PySem.StrLaws.seqIndex_nonneg h0 h1
  exact tail_any (typeIs_str s2 z t) slot_str_getitem.lookup (getItem_str (c := c) (by
    have e1 : decide (i < -(2 ^ 63 : Int)) = false := decide_eq_false (by omega)
    have e2 : decide (i ≥ 2 ^ 63) = false := decide_eq_false (by omega)
    rw [e1, e2] <;> rfl) (by rw [e]; exact hc) ⟨.str ⟨#[c]⟩, H2, I2.tok _, ⟨_, rfl⟩, q⟩) (hs _ _)
/-- b[i], 0 ≤ i < len -/
theorem pe_item_byt (ha : PE X a ta) (hb : PE X b tb) (hs : PlainIxT b) :
    PE X (.Subscript a b pos) (tOp (fun x y H Q => ∃ (z : List UInt8) (i : Int), x = .byt z.toArray ∧ y = .int i ∧ z.length ≤ sizeLine ∧ 0 ≤ i ∧ i < z.length ∧ Q (.int ((z.getD i.toNat 0).toNat : Nat)) H) ta tb) := by
  intro pins s σ H Q I h
  refine Subscript_ (binT ha hb I h fun v u s2 x y H2 I2 rx ry q => ?_)
  obtain ⟨z, i, rfl, rfl, hz, h0, h1, q⟩ := q
  obtain ⟨t, rfl⟩ := rx
  obtain ⟨t', rfl⟩ := ry
  have hl : sizeLine = 16777216 := sizeLine_eq
  exact tail_any (PySem.W.typeIs_bytes s2 z.toArray t) PySem.W.FB.slot_bytes_getitem.lookup (PySem.W.getItem_bytes (by omega) h0 h1 ⟨.int ((z.getD i.toNat 0).toNat : Nat), H2, I2.tok _, ⟨_, rfl⟩, q⟩) (hs _ _)

/-! ### scalar builtins, by CallR -/
theorem vals1 {x : V} {us : List Value} (r : Vals [x] us) : ∃ u, us = [u] ∧ RelV x u := by
  cases r with
  | cons r1 r2 => cases r2; exact ⟨_, rfl, r1⟩
theorem vals2 {x y : V} {us : List Value} (r : Vals [x, y] us) : ∃ u w', us = [u, w'] ∧ RelV x u ∧ RelV y w' := by
  cases r with
  | cons r1 r2 =>
    cases r2 with
    | cons r3 r4 => cases r4; exact ⟨_, _, rfl, r1, r3⟩
theorem call_abs : CallR X (.builtin "abs") (fun xs H Q => ∃ i, xs = [.int i] ∧ Q (.int (if i < 0 then -i else i)) H) := by
  intro pins s σ H xs us Q I r h
  obtain ⟨i, rfl, q⟩ := h
  obtain ⟨u, rfl, t, rfl⟩ := vals1 r
  exact call_abs_int fun u tk => ⟨.int (if i < 0 then -i else i), H, I.tok _, ⟨_, rfl⟩, q⟩
theorem call_max2 (hc : X.calm = true) : CallR X (.builtin "max") (fun xs H Q => ∃ i j, xs = [.int i, .int j] ∧ Q (.int (if j > i then j else i)) H) := by
  intro pins s σ H xs us Q I r h
  obtain ⟨i, j, rfl, q⟩ := h
  obtain ⟨u, w', rfl, ⟨t, rfl⟩, ⟨t', rfl⟩⟩ := vals2 r
  refine max_two_ints (I.ok.hd hc) fun h' tk k => ⟨_, H, I.kept k, ?_, q⟩
  by_cases hj : j > i
  · rw [if_pos hj, if_pos hj]; exact ⟨_, rfl⟩
  · rw [if_neg hj, if_neg hj]; exact ⟨_, rfl⟩
theorem call_min2 (hc : X.calm = true) : CallR X (.builtin "min") (fun xs H Q => ∃ i j, xs = [.int i, .int j] ∧ Q (.int (if j < i then j else i)) H) := by
  intro pins s σ H xs us Q I r h
  obtain ⟨i, j, rfl, q⟩ := h
  obtain ⟨u, w', rfl, ⟨t, rfl⟩, ⟨t', rfl⟩⟩ := vals2 r
  refine min_two_ints (I.ok.hd hc) fun h' tk k => ⟨_, H, I.kept k, ?_, q⟩
  by_cases hj : j < i
  · rw [if_pos hj, if_pos hj]; exact ⟨_, rfl⟩
  · rw [if_neg hj, if_neg hj]; exact ⟨_, rfl⟩
theorem call_int1 : CallR X (.type "int") (fun xs H Q => (∃ i, xs = [.int i] ∧ Q (.int i) H) ∨ ∃ k, xs = [.bl k] ∧ Q (.int (if k then 1 else 0)) H) := by
  intro pins s σ H xs us Q I r h
  rcases h with ⟨i, rfl, q⟩ | ⟨k, rfl, q⟩
  · obtain ⟨u, rfl, t, rfl⟩ := vals1 r
    exact call_int_int ⟨.int i, H, I, ⟨_, rfl⟩, q⟩
  · obtain ⟨u, rfl, r1⟩ := vals1 r
    cases r1
    exact call_int_bool ⟨.int (if k then 1 else 0), H, I.tok _, ⟨_, rfl⟩, q⟩
theorem call_bool1 : CallR X (.type "bool") (fun xs H Q => (∃ i, xs = [.int i] ∧ Q (.bl (i != 0)) H) ∨ ∃ k, xs = [.bl k] ∧ Q (.bl k) H) := by
  intro pins s σ H xs us Q I r h
  rcases h with ⟨i, rfl, q⟩ | ⟨k, rfl, q⟩
  · obtain ⟨u, rfl, t, rfl⟩ := vals1 r
    exact call_bool_int ⟨.bl (i != 0), H, I, rfl, q⟩
  · obtain ⟨u, rfl, r1⟩ := vals1 r
    cases r1
    exact call_bool_bool ⟨.bl k, H, I, rfl, q⟩
theorem call_str_int : CallR X (.type "str") (fun xs H Q => ∃ i, xs = [.int i] ∧ i.natAbs.log2 < 1920 ∧ Q (.str (toString i)) H) := by
  intro pins s σ H xs us Q I r h
  obtain ⟨i, rfl, hz, q⟩ := h
  obtain ⟨u, rfl, t, rfl⟩ := vals1 r
  exact PySem.P.str_of_int hz ⟨.str _, H, I.tok _, ⟨_, rfl⟩, q⟩
theorem call_ord : CallR X (.builtin "ord") (fun xs H Q => ∃ x, xs = [.str x] ∧ x.length = 1 ∧ Q (.int (x.cps.getD 0 0 : Nat)) H) := by
  intro pins s σ H xs us Q I r h
  obtain ⟨x, rfl, hz, q⟩ := h
  obtain ⟨u, rfl, t, rfl⟩ := vals1 r
  exact ord_of_one hz ⟨.int _, H, I.tok _, ⟨_, rfl⟩, q⟩
theorem call_chr : CallR X (.builtin "chr") (fun xs H Q => ∃ i, xs = [.int i] ∧ 0 ≤ i ∧ i ≤ 1114111 ∧ Q (.str ⟨#[i.toNat]⟩) H) := by
  intro pins s σ H xs us Q I r h
  obtain ⟨i, rfl, h0, h1, q⟩ := h
  obtain ⟨u, rfl, t, rfl⟩ := vals1 r
  exact chr_of_range h0 h1 ⟨.str _, H, I.tok _, ⟨_, rfl⟩, q⟩
/-- len of a str, a bytes, a list, a tuple -/
def LenV (K : PySem.W.Frag) (x : V) (H : Hp) (n : Nat) : Prop :=
  match x with
  | .str y => y.length ≤ sizeLine ∧ n = y.length
  | .byt y => y.size ≤ sizeLine ∧ n = y.size
  | .ref p => (∃ xs, SqL K H p xs ∧ n = xs.length) ∨ ∃ xs, SqT K H p xs ∧ n = xs.length
  | _ => False
theorem call_len : CallR X (.builtin "len") (fun xs H Q => ∃ x n, xs = [x] ∧ LenV X.K x H n ∧ Q (.int n) H) := by
  intro pins s σ H xs us Q I r h
  obtain ⟨x, n, rfl, e, q⟩ := h
  obtain ⟨u, rfl, rx⟩ := vals1 r
  have hl := line63
  have hs : sizeLine = 16777216 := sizeLine_eq
  cases x with
  | str y =>
    obtain ⟨t, rfl⟩ := rx
    obtain ⟨hy, e'⟩ : y.length ≤ sizeLine ∧ n = y.length := e
    subst e'
    exact len_str (by omega) ⟨.int _, H, I.tok _, ⟨_, rfl⟩, q⟩
  | byt y =>
    obtain ⟨t, rfl⟩ := rx
    obtain ⟨hy, e'⟩ : y.size ≤ sizeLine ∧ n = y.size := e
    subst e'
    exact PySem.W.len_bytes (by omega) ⟨.int _, H, I.tok _, ⟨_, rfl⟩, q⟩
  | ref p =>
    cases rx
    have e' : (∃ xs, SqL X.K H p xs ∧ n = xs.length) ∨ ∃ xs, SqT X.K H p xs ∧ n = xs.length := e
    rcases e' with ⟨xs, hx, e'⟩ | ⟨xs, hx, e'⟩
    · subst e'
      obtain ⟨its, r', pl, hz⟩ := I.list hx
      have hlen := r'.length
      exact Calls.call_len_list pl.isList (by simp only [List.size_toArray]; omega) ⟨.int xs.length, H, I.tok _, ⟨_, by simp only [List.size_toArray]; rw [hlen]⟩, q⟩
    · subst e'
      obtain ⟨its, r', pl, hz⟩ := I.tuple hx
      have hlen := r'.length
      exact len_tuple pl (by simp only [List.size_toArray]; omega) ⟨.int xs.length, H, I.tok _, ⟨_, by simp only [List.size_toArray]; rw [hlen]⟩, q⟩
  | _ => exact (show False from e).elim
/-- divmod: a new tuple -/
theorem call_divmod : CallR X (.builtin "divmod") (fun xs H Q => ∃ i j, xs = [.int i, .int j] ∧ CDiv i j ∧ ∀ p, H p = none → Q (.ref p) (upd H p (.tup [.int (i / j), .int (i % j)]))) := by
  intro pins s σ H xs us Q I r h
  obtain ⟨i, j, rfl, ⟨h1, h2⟩, q⟩ := h
  obtain ⟨u, w', rfl, ⟨t, rfl⟩, ⟨t', rfl⟩⟩ := vals2 r
  refine divmod_int (by omega) ?_ (.inl (PyProof.noPylong_small (by omega)))
  rw [Int.fdiv_eq_ediv_of_nonneg i (by omega), Int.fmod_eq_emod_of_nonneg i (by omega)]
  have hn : H s.heap.objs.size = none := I.hok.fresh (Nat.le_refl _)
  refine ⟨.ref s.heap.objs.size, _, ?_, rfl, q _ hn⟩
  refine I.laid (fun b o e => Heap.get?_push_of_some _ e) (Nat.le_refl _) ⟨by simp only [List.length_cons, List.length_nil]; rw [sizeLine_eq]; decide, [.int (i / j) s.toks, .int (i % j) (s.toks + 1)], .cons ⟨_, rfl⟩ (.cons ⟨_, rfl⟩ .nil), ?_⟩
  exact ⟨_, Heap.get?_push_size s.heap rfl, rfl, 0, rfl⟩
end
end L2

namespace L2
open PySem PySem.Spec PyProof.Rows

/-! ### an instance, its attributes a map -/
structure ObjM (h : Heap) (x dx C : Addr) (mA : Str → Option Value) : Prop where
  obj : h.get? x = some (PySem.W.instObj C dx)
  ns : h.Ns1 dx mA
  ne : dx ≠ x

theorem lookIn_ns {h : Heap} {dx : Addr} {mA : Str → Option Value} (n : h.Ns1 dx mA) : ∃ od, h.get? dx = some od ∧ ∀ name, PySem.W.lookIn name od = some (mA name) := by
  obtain ⟨o, es, ep, ho, hd, hk, _, hm⟩ := n
  refine ⟨o, ho, fun name => ?_⟩
  have e := hm name
  unfold nsFind findBy at e
  rw [← Array.find?_toList] at e
  unfold PySem.W.lookIn
  rw [hd]
  dsimp only
  split
  · rename_i y q
    rw [q] at e
    exact congrArg some e
  · rename_i q
    rw [q] at e
    have a : es.toList.any (·.refKey) = false := by
      rw [List.any_eq_false]
      intro y hy
      obtain ⟨z, t, hkey⟩ := hk y (Array.mem_toList_iff.mp hy)
      simp [DictEntry.refKey, hkey]
    have a' : ¬ es.toList.any (·.refKey) = true := by rw [a]; exact Bool.false_ne_true
    rw [if_neg a']
    exact congrArg some e

theorem ObjM.look {h : Heap} {x dx C : Addr} {mA : Str → Option Value} (I : ObjM h x dx C mA) : ∃ od, PySem.W.InstAt h x (PySem.W.instObj C dx) C (some od) ∧ ∀ name, PySem.W.lookIn name od = some (mA name) :=
  let ⟨od, ho, hl⟩ := lookIn_ns I.ns
  ⟨od, ⟨I.obj, rfl, rfl, ho⟩, hl⟩

section
variable {prog : Program} {w : World} {A : Around} {E : Value → Shared → Prop} {s : Shared} {K : PySem.W.Frag} {x dx C f : Addr} {mA : Str → Option Value} {name : Str} {v : Value}

theorem get_map {expr : Bool} {Q : Value → Shared → Prop} (X : K.In s.heap) (I : ObjM s.heap x dx C mA) (hg : PySem.W.plainGet K C name = true) (hh : PySem.W.hasDictIn K C = true)
    (ha : PySem.W.findIn K (.ref C) name = some none) (hv : mA name = some v) (hv' : PySem.W.handedIn v = true) (h : Q v { s with toks := s.toks + 1 }) :
    wpAny (model prog w) A (getAttr (.ref x) name expr) Q E s := by
  obtain ⟨od, J, hl⟩ := I.look
  exact PySem.W.get_value X J (PySem.W.plainGet_of hg).1 (PySem.W.findObj_own hh ha rfl (by rw [hl, hv])) hv' h

theorem get_const {expr : Bool} {a : Value} {Q : Value → Shared → Prop} (X : K.In s.heap) (I : ObjM s.heap x dx C mA) (hg : PySem.W.plainGet K C name = true) (hh : PySem.W.hasDictIn K C = true)
    (ha : PySem.W.findIn K (.ref C) name = some (some a)) (hn : PySem.W.specialIn K a "__get__" = some none) (hc : PySem.W.copiedNames.contains name = false) (hv : mA name = none) (hv' : PySem.W.handedIn a = true)
    (h : Q a { s with toks := s.toks + 1 }) : wpAny (model prog w) A (getAttr (.ref x) name expr) Q E s := by
  obtain ⟨od, J, hl⟩ := I.look
  exact PySem.W.get_value X J (PySem.W.plainGet_of hg).1 (PySem.W.findObj_cls hh ha hn hv' hc (by rw [hl, hv])) hv' h

theorem get_meth {pl : Sem Bool} {Q : Value × List Value → Shared → Prop} (X : K.In s.heap) (I : ObjM s.heap x dx C mA) (hg : PySem.W.plainGet K C name = true)
    (hf : PySem.W.findIn K (.ref C) name = some (some (.ref f))) (ht : PySem.W.isFn K (.ref f) = true) (hv : mA name = none) (h : Q (.ref f, [.ref x]) s) :
    wpAny (model prog w) A (getMethod (.ref x) name pl) Q E s := by
  obtain ⟨od, J, hl⟩ := I.look
  exact PySem.W.method_fn X J (PySem.W.plainGet_of hg).1 (PySem.W.plainGet_of hg).2 hf (beq_iff_eq.mp ht) (by show (PySem.W.lookIn name od).map (·.isSome) = some false; rw [hl, hv]; rfl) h

theorem set_map {ns : List Str} {Q : Unit → Shared → Prop} (X : K.In s.heap) (I : ObjM s.heap x dx C mA)
    (hs : PySem.W.findIn K (.ref C) "__setattr__" = some (some (.builtin "object.__setattr__"))) (hp : PySem.W.plainOver K C = true) (ht : PySem.W.takerIn K C name = some none) (hh : PySem.W.hasDictIn K C = true)
    (hw : PySem.Within mA ns) (hsz : ns.length ≤ sizeLine)
    (h : ∀ h', ObjM h' x dx C (fun y => if y = name then some v else mA y) → Heap.SameBut dx s.heap h' → Q () { s with heap := h', toks := s.toks + 2 }) :
    wpAny (model prog w) A (setAttr (.ref x) name v) Q E s := by
  obtain ⟨od, J, hl⟩ := I.look
  refine PySem.W.set_plain X J hs (PySem.W.osa_open (s := { s with toks := s.toks + 1 }) (r := none) X J hp ht fun b => ?_)
  obtain ⟨cd, hc, hd'⟩ := PySem.W.any_some hh
  have hx : s.heap.get? x = some ⟨.ref C, some dx, .plain, #[]⟩ := I.obj
  refine wpAny_bind (wpAny_pure (wpAny_bind (wpAny_bind (wpAny_loadPart hx (wpAny_bind (PySem.W.Looks.here (s := { s with toks := s.toks + 1 }) (PySem.W.looks_clsIn X hc) ?_))))))
  rw [hd']
  refine wpAny_pure (a := some dx) (wpAny_bind (wpAny_pure (wpAny_bind ?_)))
  refine wpAny_nsSet1 (s := { s with toks := s.toks + 1 }) I.ns fun h' hn2 hs2 => ?_
  obtain ⟨oD, esD, epD, hoD, hdD, hcD⟩ := hn2.count (PySem.Within.cons name v hw)
  refine wpAny_bind (wpAny_lookBehind hoD (by rw [hdD]; exact pastItsLine_dict (Nat.le_trans hcD (by rw [List.length_cons]; omega))) ?_)
  exact wpAny_pure (h _ ⟨(hs2.2 _ (Ne.symm I.ne)).trans I.obj, hn2, I.ne⟩ hs2)

/-- C(..): the dict at the heap's end, the instance behind it; then its __init__ -/
theorem make_map {R : Result → Shared → Prop} {vs : List Value} {kw : List (Str × Value)} (X : K.In s.heap) (hm : PySem.W.makesIn K C = true)
    (hi : PySem.W.findIn K (.ref C) "__init__" = some (some (.ref f))) (hf : PySem.W.typeIn K (.ref f) = some (.type "function"))
    (h : codeAny (model prog w) (A.under (.builtin "type.__call__" ⟨.ref C :: vs, kw⟩)) (.call (.ref f) ⟨.ref (s.heap.objs.size + 1) :: vs, kw⟩) (PySem.W.InitBack (s.heap.objs.size + 1) R)
      { s with heap := (s.heap.push PySem.W.emptyDict).push (PySem.W.instObj C s.heap.objs.size) }) :
    codeAny (model prog w) A (.call (.ref C) ⟨vs, kw⟩) R s := by
  obtain ⟨hh, g, d, t, os⟩ := s
  exact PySem.W.make_core (PySem.W.makes_of X hm) (PySem.W.looks_findIn X hi) (fun self => PySem.W.bind_fn X self hf) (.inl rfl) h
/-- C() where there is no __init__ but object's -/
theorem make_map0 {R : Result → Shared → Prop} (X : K.In s.heap) (hm : PySem.W.makesIn K C = true)
    (hi : PySem.W.findIn K (.ref C) "__init__" = some (some (.builtin "object.__init__")))
    (hb : ∀ self, PySem.W.Looks (model prog w) s.heap (bindSpecial (.builtin "object.__init__") self) (.builtin "object.__init__", [self]))
    (h : codeAny (model prog w) (A.under (.builtin "type.__call__" ⟨[.ref C], []⟩)) (.call (.builtin "object.__init__") ⟨[.ref (s.heap.objs.size + 1)], []⟩) (PySem.W.InitBack (s.heap.objs.size + 1) R)
      { s with heap := (s.heap.push PySem.W.emptyDict).push (PySem.W.instObj C s.heap.objs.size) }) :
    codeAny (model prog w) A (.call (.ref C) ⟨[], []⟩) R s := by
  obtain ⟨hh, g, d, t, os⟩ := s
  exact PySem.W.make_core (PySem.W.makes_of X hm) (PySem.W.looks_findIn X hi) hb (.inr ⟨rfl, rfl⟩) h
end

/-! ### the attributes as a list of pairs -/
def putF (f : Str) (v : V) : List (Str × V) → List (Str × V)
  | [] => [(f, v)]
  | (g, x) :: r => if g = f then (g, v) :: r else (g, x) :: putF f v r
theorem lookup_putF (f g : Str) (v : V) : ∀ fs : List (Str × V), (putF f v fs).lookup g = if g = f then some v else fs.lookup g
  | [] => by
    show List.lookup g [(f, v)] = _
    by_cases h : g = f
    · have hb : (g == f) = true := beq_iff_eq.mpr h
      simp only [List.lookup, hb, if_pos h]
    · have hb : (g == f) = false := beq_eq_false_iff_ne.mpr h
      simp only [List.lookup, hb, if_neg h]
  | (k, x) :: r => by
    have ih := lookup_putF f g v r
    rw [show putF f v ((k, x) :: r) = (if k = f then (k, v) :: r else (k, x) :: putF f v r) from rfl]
    by_cases hk : k = f
    · rw [if_pos hk]
      by_cases h : g = k
      · have hb : (g == k) = true := beq_iff_eq.mpr h
        simp only [List.lookup, hb, if_pos (h.trans hk)]
      · have hb : (g == k) = false := beq_eq_false_iff_ne.mpr h
        simp only [List.lookup, hb, if_neg (fun e : g = f => h (e.trans hk.symm))]
    · rw [if_neg hk]
      by_cases h : g = k
      · have hb : (g == k) = true := beq_iff_eq.mpr h
        simp only [List.lookup, hb, if_neg (fun e : g = f => hk (h.symm.trans e))]
      · have hb : (g == k) = false := beq_eq_false_iff_ne.mpr h
        simp only [List.lookup, hb]
        exact ih
theorem keys_putF (f : Str) (v : V) : ∀ fs : List (Str × V), f ∈ (putF f v fs).map (·.1) ∧ ∀ g, g ∈ fs.map (·.1) → g ∈ (putF f v fs).map (·.1)
  | [] => ⟨by simp [putF], fun g h => by simp at h⟩
  | (k, x) :: r => by
    obtain ⟨i1, i2⟩ := keys_putF f v r
    rw [show putF f v ((k, x) :: r) = (if k = f then (k, v) :: r else (k, x) :: putF f v r) from rfl]
    by_cases hk : k = f
    · rw [if_pos hk]
      subst hk
      exact ⟨by simp, fun g h => by simpa using h⟩
    · rw [if_neg hk]
      refine ⟨?_, fun g h => ?_⟩
      · rw [List.map_cons]
        exact List.mem_cons_of_mem _ i1
      · rw [List.map_cons] at h ⊢
        rcases List.mem_cons.mp h with e | e
        · exact List.mem_cons.mpr (.inl e)
        · exact List.mem_cons_of_mem _ (i2 g e)
theorem length_putF (f : Str) (v : V) : ∀ fs : List (Str × V), (putF f v fs).length ≤ fs.length + 1
  | [] => by simp [putF]
  | (k, x) :: r => by
    have ih := length_putF f v r
    rw [show putF f v ((k, x) :: r) = (if k = f then (k, v) :: r else (k, x) :: putF f v r) from rfl]
    by_cases hk : k = f
    · rw [if_pos hk, List.length_cons, List.length_cons]; omega
    · rw [if_neg hk, List.length_cons, List.length_cons]; omega

theorem RelO.some_of {v : V} {o : Option Value} (r : RelO (some v) o) : ∃ u, o = some u ∧ RelV v u := by
  cases o with
  | none => exact (show False from r).elim
  | some u => exact ⟨u, rfl, r⟩
theorem RelO.none_of {o : Option Value} (r : RelO none o) : o = none := by
  cases o with
  | none => rfl
  | some u => exact (show False from r).elim
theorem handed_of {v : V} {u : Value} (r : RelV v u) : PySem.W.handedIn u = true := by
  cases v with
  | non => cases (show u = Value.none from r); rfl
  | bl b => cases (show u = Value.bool b from r); rfl
  | int i => obtain ⟨t, e⟩ := (show ∃ t, u = Value.int i t from r); cases e; rfl
  | str x => obtain ⟨t, e⟩ := (show ∃ t, u = Value.str x t from r); cases e; rfl
  | byt b => obtain ⟨t, e⟩ := (show ∃ t, u = Value.bytes b t from r); cases e; rfl
  | flt b => obtain ⟨t, e⟩ := (show ∃ t, u = Value.float b t from r); cases e; rfl
  | ref a => cases (show u = Value.ref a from r); rfl
  | ty n => cases (show u = Value.type n from r); rfl

section
variable {P : Program} {w : World} {H H' : Hp} {h h' : Heap} {a C dx : Addr} {fs fs' : List (Str × V)}
theorem ins_get (hok : HOk P w H h) (e : H a = some (.ins C dx fs)) : ∃ mA, ObjM h a dx C mA ∧ (∀ f, RelO (fs.lookup f) (mA f)) ∧ PySem.Within mA (fs.map (·.1)) ∧ fs.length ≤ 1000 ∧ H dx = some (.own a) := by
  obtain ⟨d, z, ne, ob, mA, n, r, q⟩ := (show ObjOk P w H h a (.ins C dx fs) from hok a _ e)
  exact ⟨mA, ⟨ob, n, ne⟩, r, q, z, d⟩
end

/-! ### what of the text a class must have -/
structure Cls (K : PySem.W.Frag) (C : Addr) : Prop where
  pg : PySem.W.plainGet K C Str.empty = true
  hd : PySem.W.hasDictIn K C = true
  po : PySem.W.plainOver K C = true
  sa : PySem.W.findIn K (.ref C) "__setattr__" = some (some (.builtin "object.__setattr__"))
theorem Cls.get {K : PySem.W.Frag} {C : Addr} (c : Cls K C) (f : Str) : PySem.W.plainGet K C f = true := c.pg
/-- no class of it has the name -/
def NoAttr (K : PySem.W.Frag) (C : Addr) (f : Str) : Prop := PySem.W.findIn K (.ref C) f = some none
theorem NoAttr.taker {K : PySem.W.Frag} {C : Addr} {f : Str} (n : NoAttr K C f) : PySem.W.takerIn K C f = some none := by
  unfold PySem.W.takerIn
  rw [show PySem.W.findIn K (.ref C) f = some none from n]
  rfl
/-- a constant of the class -/
structure Con (K : PySem.W.Frag) (C : Addr) (f : Str) (v : V) (u : Value) : Prop where
  at_ : PySem.W.findIn K (.ref C) f = some (some u)
  rel : RelV v u
  get : PySem.W.specialIn K u "__get__" = some none
  cp : PySem.W.copiedNames.contains f = false
/-- a method: a plain def of the class or of one above it -/
structure Meth (K : PySem.W.Frag) (C : Addr) (m : Str) (f : Addr) : Prop where
  at_ : PySem.W.findIn K (.ref C) m = some (some (.ref f))
  fn : PySem.W.isFn K (.ref f) = true
  kp : PySem.W.keepIn K (.ref f) = true

section
variable {X : Cx} {pins : List (Addr × Obj)} {σ : St} {H : Hp} {s : Shared} {a C dx : Addr} {fs : List (Str × V)} {f : Str} {v : V} {A : Around} {E : Value → Shared → Prop}

theorem getattr_ok {b : Bool} {Q : Value → Shared → Prop} (I : Inv X pins σ H s) (e : H a = some (.ins C dx fs)) (c : Cls X.K C) (n : NoAttr X.K C f) (l : fs.lookup f = some v)
    (h : ∀ u s', Inv X pins σ H s' → RelV v u → Q u s') : wpAny (model X.prog X.w) A (getAttr (.ref a) f b) Q E s := by
  obtain ⟨mA, O, r, _, _, _⟩ := ins_get I.hok e
  obtain ⟨u, hu, ru⟩ := RelO.some_of (v := v) (o := mA f) (by rw [← l]; exact r f)
  exact get_map I.kIn O (c.get f) c.hd n hu (handed_of ru) (h u _ (I.tok _) ru)

theorem getcon_ok {b : Bool} {u : Value} {Q : Value → Shared → Prop} (I : Inv X pins σ H s) (e : H a = some (.ins C dx fs)) (c : Cls X.K C) (k : Con X.K C f v u) (l : fs.lookup f = none)
    (h : ∀ s', Inv X pins σ H s' → Q u s') : wpAny (model X.prog X.w) A (getAttr (.ref a) f b) Q E s := by
  obtain ⟨mA, O, r, _, _, _⟩ := ins_get I.hok e
  have hn : mA f = none := RelO.none_of (by rw [← l]; exact r f)
  exact get_const I.kIn O (c.get f) c.hd k.at_ k.get k.cp hn (handed_of k.rel) (h _ (I.tok _))

theorem getmeth_ok {m : Str} {g : Addr} {pl : Sem Bool} {Q : Value × List Value → Shared → Prop} (I : Inv X pins σ H s) (e : H a = some (.ins C dx fs)) (c : Cls X.K C) (k : Meth X.K C m g) (l : fs.lookup m = none)
    (h : Q (.ref g, [.ref a]) s) : wpAny (model X.prog X.w) A (getMethod (.ref a) m pl) Q E s := by
  obtain ⟨mA, O, r, _, _, _⟩ := ins_get I.hok e
  have hn : mA m = none := RelO.none_of (by rw [← l]; exact r m)
  exact get_meth I.kIn O (c.get m) k.at_ k.fn hn h

theorem setattr_ok {y : V} {u : Value} {Q : Unit → Shared → Prop} (I : Inv X pins σ H s) (e : H a = some (.ins C dx fs)) (c : Cls X.K C) (n : NoAttr X.K C f) (hl : fs.length < 1000) (ry : RelV y u)
    (h : ∀ s', Inv X pins σ (upd H a (.ins C dx (putF f y fs))) s' → Q () s') : wpAny (model X.prog X.w) A (setAttr (.ref a) f u) Q E s := by
  obtain ⟨mA, O, r, wi, _, ho⟩ := ins_get I.hok e
  have hz : (fs.map (·.1)).length ≤ sizeLine := by rw [List.length_map, sizeLine_eq]; omega
  refine set_map I.kIn O c.sa c.po n.taker c.hd wi hz fun h' O' sb => h _ ?_
  have hd : ∃ o, h'.get? dx = some o := let ⟨o, _, _, e', _⟩ := O'.ns; ⟨o, e'⟩
  refine I.write (x := a) (e := dx) (by rw [e]; exact True.intro) (.inr ho) (fun b q hb z => (sb.2 b hb).trans z) hd ?_
  refine ⟨by rw [upd_ne O.ne]; exact ho, ?_, O.ne, O'.obj, _, O'.ns, fun g => ?_, fun g hg => ?_⟩
  · have := length_putF f y fs; omega
  · show RelO ((putF f y fs).lookup g) (if g = f then some u else mA g)
    rw [lookup_putF]
    by_cases q : g = f
    · rw [if_pos q, if_pos q]; exact ry
    · rw [if_neg q, if_neg q]; exact r g
  · by_cases q : g = f
    · rw [q]; exact (keys_putF f y fs).1
    · refine (keys_putF f y fs).2 g (wi g fun z => hg ?_)
      show (if g = f then some u else mA g) = none
      rw [if_neg q]; exact z

/-- a new instance, tracked, without attributes -/
theorem Inv.made (I : Inv X pins σ H s) : Inv X pins σ (upd (upd H s.heap.objs.size (.own (s.heap.objs.size + 1))) (s.heap.objs.size + 1) (.ins C s.heap.objs.size []))
    { s with heap := (s.heap.push PySem.W.emptyDict).push (PySem.W.instObj C s.heap.objs.size) } := by
  have e1 : (s.heap.push PySem.W.emptyDict).get? s.heap.objs.size = some PySem.W.emptyDict := Heap.get?_push_size s.heap rfl
  have e2 : ((s.heap.push PySem.W.emptyDict).push (PySem.W.instObj C s.heap.objs.size)).get? (s.heap.objs.size + 1) = some (PySem.W.instObj C s.heap.objs.size) := by
    have := Heap.get?_push_size (s.heap.push PySem.W.emptyDict) (o := PySem.W.instObj C s.heap.objs.size) rfl
    rwa [Heap.size_push] at this
  have e3 : (s.heap.push PySem.W.emptyDict).Ns s.heap.objs.size (fun _ => none) := ⟨PySem.W.emptyDict, #[], _, e1, rfl, (fun e he => absurd he (by simp)), fun _ => rfl⟩
  have I1 := I.laid (a := s.heap.objs.size) (o := .own (s.heap.objs.size + 1)) (h' := s.heap.push PySem.W.emptyDict) (t' := s.toks) (fun b u q => Heap.get?_push_of_some _ q) (Nat.le_refl _) ⟨_, e1⟩
  refine I1.laid (a := s.heap.objs.size + 1) (o := .ins C s.heap.objs.size []) (t' := s.toks) (fun b u q => Heap.get?_push_of_some _ q) (Nat.le_of_eq (Heap.size_push _ _)) ?_
  have ne : s.heap.objs.size ≠ s.heap.objs.size + 1 := Nat.ne_of_lt (Nat.lt_succ_self _)
  refine ⟨by rw [upd_ne ne, upd_same], Nat.zero_le _, ne, e2, fun _ => none, (Heap.Ns1.of_empty e3).at fun o q => Heap.get?_push_of_some _ q, fun _ => True.intro, fun y hy => absurd rfl hy⟩

/-- e.f where nothing but the object is asked: through attributeBase (super) and the last hold -/
theorem attr_of {prog : Program} {w : World} {env : Env} {e : Expr} {f : Str} {pos : Pos} {s : Shared} {Q : Value → Shared → Prop} (hb : attributeBase e f env (eval e env) = eval e env)
    (h : wpAny (model prog w) A (eval e env) (fun o s₁ => wpAny (model prog w) A (getAttr o f true) Q E s₁) E s) : wpAny (model prog w) A (eval (.Attribute e f pos) env) Q E s :=
  Attribute_any_ h (by rw [arm_eval_Attribute, hb])
end

/-! ### readings and rules -/
/-- e.f, an attribute of the instance -/
def tFld (K : PySem.W.Frag) (ta : TE) (f : Str) : TE := fun σ H Q => ta σ H fun x H1 => ∃ a C dx fs v, x = .ref a ∧ H1 a = some (.ins C dx fs) ∧ Cls K C ∧ NoAttr K C f ∧ fs.lookup f = some v ∧ Q v H1
/-- e.f, a constant of the class -/
def tCon (K : PySem.W.Frag) (ta : TE) (f : Str) : TE := fun σ H Q => ta σ H fun x H1 => ∃ a C dx fs v u, x = .ref a ∧ H1 a = some (.ins C dx fs) ∧ Cls K C ∧ Con K C f v u ∧ fs.lookup f = none ∧ Q v H1
/-- e.f = value -/
def sFld (K : PySem.W.Frag) (ta tv : TE) (f : Str) : TS := fun D σ H => tv σ H fun y H1 => ta σ H1 fun x H2 => ∃ a C dx fs, x = .ref a ∧ H2 a = some (.ins C dx fs) ∧ Cls K C ∧ NoAttr K C f ∧ fs.length < 1000 ∧
  D.nx σ (upd H2 a (.ins C dx (putF f y fs)))
/-- an augmented operator on two values -/
def InOp (X : Cx) (op : Operator) (rd : V → V → Hp → VK → Prop) : Prop :=
  ∀ (pins : List (Addr × Obj)) (s : Shared) (σ : St) (H : Hp) (x y : V) (u v : Value) (Q : VK), Inv X pins σ H s → RelV x u → RelV y v → rd x y H Q → wpAny (model X.prog X.w) X.A (inplaceOp op u v) (EP X pins σ Q) X.xe s
/-- e.f op= value -/
def sFldAug (K : PySem.W.Frag) (ta tv : TE) (rd : V → V → Hp → VK → Prop) (f : Str) : TS := fun D σ H => ta σ H fun x H1 => ∃ a C dx fs v, x = .ref a ∧ H1 a = some (.ins C dx fs) ∧ Cls K C ∧ NoAttr K C f ∧ fs.lookup f = some v ∧
  tv σ H1 fun y H2 => rd v y H2 fun z H3 => ∃ dx' fs', H3 a = some (.ins C dx' fs') ∧ fs'.length < 1000 ∧ D.nx σ (upd H3 a (.ins C dx' (putF f z fs')))

section
variable {X : Cx} {o e value : Expr} {f : Str} {pos pos' tpos : Pos} {ta tv : TE}
theorem pe_fld (he : PE X e ta) (hb : attributeBase e f X.env (eval e X.env) = eval e X.env) : PE X (.Attribute e f pos) (tFld X.K ta f) := by
  intro pins s σ H Q I h
  refine attr_of hb (thn (he pins s σ H _ I h) fun u s1 ⟨x, H1, I1, rx, a, C, dx, fs, v, ex, ea, c, n, l, q⟩ => ?_)
  subst ex
  obtain rfl : u = Value.ref a := rx
  exact getattr_ok I1 ea c n l fun u' s2 I2 ru => ⟨v, H1, I2, ru, q⟩
theorem pe_con (he : PE X e ta) (hb : attributeBase e f X.env (eval e X.env) = eval e X.env) : PE X (.Attribute e f pos) (tCon X.K ta f) := by
  intro pins s σ H Q I h
  refine attr_of hb (thn (he pins s σ H _ I h) fun u s1 ⟨x, H1, I1, rx, a, C, dx, fs, v, u0, ex, ea, c, k, l, q⟩ => ?_)
  subst ex
  obtain rfl : u = Value.ref a := rx
  exact getcon_ok I1 ea c k l fun s2 I2 => ⟨v, H1, I2, k.rel, q⟩
theorem ps_fld (ha : PE X o ta) (hv : PE X value tv) (hs : swapsWith value (some (.Attribute o f pos')) pos.line X.env = pure false) : PS X (.Assign [.Attribute o f pos'] value pos) (sFld X.K ta tv f) := by
  intro pins s σ H D I h
  refine plainObj_wpAny_Assign_Attribute (thn (hv pins s σ H _ I h) fun u s1 ⟨y, H1, I1, ry, q⟩ => thn (ha pins s1 σ H1 _ I1 q) fun ov s2 ⟨x, H2, I2, rx, a, C, dx, fs, ex, ea, c, n, l, q2⟩ => ?_) hs
  subst ex
  obtain rfl : ov = Value.ref a := rx
  exact setattr_ok I2 ea c n l ry fun s3 I3 => ⟨σ, _, I3, q2⟩
theorem ps_fldaug {op : Operator} {rd : V → V → Hp → VK → Prop} (ha : PE X o ta) (hv : PE X value tv) (hop : InOp X op rd) : PS X (.AugAssign (.Attribute o f tpos) op value pos) (sFldAug X.K ta tv rd f) := by
  intro pins s σ H D I h
  refine wpAny_AugAssign_AttributeAny (thn (ha pins s σ H _ I h) fun ov s1 ⟨x, H1, I1, rx, a, C, dx, fs, v, ex, ea, c, n, l, q⟩ => ?_)
  subst ex
  obtain rfl : ov = Value.ref a := rx
  refine getattr_ok I1 ea c n l fun u s2 I2 ru => thn (hv pins s2 σ H1 _ I2 q) fun w3 s3 ⟨y, H2, I3, ry, q3⟩ => thn (hop pins s3 σ H2 v y u w3 _ I3 ru ry q3) fun w4 s4 ⟨z, H3, I4, rz, dx', fs', ea', l', q4⟩ => ?_
  exact setattr_ok I4 ea' c n l' rz fun s5 I5 => ⟨σ, _, I5, q4⟩
def rAdd : V → V → Hp → VK → Prop := fun x y H Q => ∃ i j, x = .int i ∧ y = .int j ∧ Q (.int (i + j)) H
def rSub : V → V → Hp → VK → Prop := fun x y H Q => ∃ i j, x = .int i ∧ y = .int j ∧ Q (.int (i - j)) H
theorem in_add : InOp X .Add rAdd := by
  rintro pins s σ H x y u v Q I rx ry ⟨i, j, rfl, rfl, q⟩
  obtain ⟨t, rfl⟩ := (show ∃ t, u = Value.int i t from rx)
  obtain ⟨t', rfl⟩ := (show ∃ t', v = Value.int j t' from ry)
  exact PyProof.Rows.iadd_int ⟨.int (i + j), H, I.tok _, ⟨_, rfl⟩, q⟩
theorem in_sub : InOp X .Sub rSub := by
  rintro pins s σ H x y u v Q I rx ry ⟨i, j, rfl, rfl, q⟩
  obtain ⟨t, rfl⟩ := (show ∃ t, u = Value.int i t from rx)
  obtain ⟨t', rfl⟩ := (show ∃ t', v = Value.int j t' from ry)
  exact PyProof.Rows.isub_int ⟨.int (i - j), H, I.tok _, ⟨_, rfl⟩, q⟩

/-- what is between an instance and its method: the tree of a method call -/
theorem methcall_of {pl : Sem Bool} {m : Str} {apos : Pos} {args : List Expr} {pins : List (Addr × Obj)} {s : Shared} {σ : St} {H : Hp} {Q : Value → Shared → Prop} {te : TE} (he : PE X e te) (I : Inv X pins σ H s)
    (h : te σ H fun x H1 => ∃ a C dx fs g, x = .ref a ∧ H1 a = some (.ins C dx fs) ∧ Cls X.K C ∧ Meth X.K C m g ∧ fs.lookup m = none ∧
      ∀ s1, Inv X pins σ H1 s1 → wpAny (model X.prog X.w) X.A (callWith pos (.ref g) [.ref a] (backTo pos (starEach args X.env)) (backToKw pos (keywordEach [] X.env))) Q X.xe s1)
    (ht : eval (.Call (.Attribute e m apos) args [] pos) X.env = (do
      let ov ← eval e X.env
      standAt apos.atName
      let (f, first) ← holding [ov] (getMethod ov m pl)
      callWith pos f first (backTo pos (starEach args X.env)) (backToKw pos (keywordEach [] X.env)))) :
    wpAny (model X.prog X.w) X.A (eval (.Call (.Attribute e m apos) args [] pos) X.env) Q X.xe s := by
  refine PySem.W.methodCall_KW (pl := pl) (thn (he pins s σ H _ I h) fun u s1 ⟨x, H1, I1, rx, a, C, dx, fs, g, ex, ea, c, k, l, q⟩ => ?_) ht
  subst ex
  obtain rfl : u = Value.ref a := rx
  exact getmeth_ok I1 ea c k l (q s1 I1)
end

/-! ### isinstance -/
section
variable {X : Cx} {pins : List (Addr × Obj)} {σ : St} {H : Hp} {s : Shared} {A : Around} {E : Value → Shared → Prop} {Q : Value → Shared → Prop} {c : Value} {b : Bool}
/-- the type of a value, as the fragment's deciders take it; for an instance its class -/
inductive TyOf (K : PySem.W.Frag) (H : Hp) : V → Value → Prop where
  | non : TyOf K H .non (.type "NoneType")
  | bl (x : Bool) : TyOf K H (.bl x) (.type "bool")
  | int (i : Int) : TyOf K H (.int i) (.type "int")
  | str (x : Str) : TyOf K H (.str x) (.type "str")
  | flt (x : UInt64) : TyOf K H (.flt x) (.type "float")
  | lst {a : Addr} {xs : List V} (e : H a = some (.lst xs)) : TyOf K H (.ref a) (.type "list")
  | frz {a : Addr} {o : Obj} {xs : List V} (e : H a = some (.frz o (.lst xs))) : TyOf K H (.ref a) (.type "list")
  | tup {a : Addr} {xs : List V} (e : H a = some (.tup xs)) : TyOf K H (.ref a) (.type "tuple")
  | dK {a : Addr} {kvs : List (Key × V)} (e : H a = some (.dK kvs)) : TyOf K H (.ref a) (.type "dict")
  | dT {a : Addr} {kvs : List (List Key × V)} (e : H a = some (.dT kvs)) : TyOf K H (.ref a) (.type "dict")
  | ins {a C dx : Addr} {fs : List (Str × V)} (e : H a = some (.ins C dx fs)) (cl : Cls K C) (ha : PySem.W.findIn K (.ref C) "__class__" = some (some (.builtin "object.__class__")))
      (hn : PySem.W.specialIn K (.builtin "object.__class__") "__get__" = some (some (.builtin "getset_descriptor.__get__"))) (htk : PySem.W.takesIn K (.builtin "object.__class__") = some true)
      (hm : PySem.W.mroIn K C (.type "object") = some true) : TyOf K H (.ref a) (.ref C)
/-- isinstance(x, c) for one class c, a built-in or an own one: kitOne's answer -/
theorem isinst_ok {x : V} {u t : Value} (I : Inv X pins σ H s) (rx : RelV x u) (ty : TyOf X.K H x t) (e : PySem.W.kitOne X.K t c = some b) (h : ∀ tk, Q (.bool b) { s with toks := tk }) :
    wpAny (model X.prog X.w) A (call (.builtin "isinstance") [u, c]) Q E s := by
  cases ty with
  | non => cases (show u = Value.none from rx); exact PySem.W.kia_one PySem.W.kitx_none I.kIn True.intro e (fun z => nomatch z) h
  | bl y => cases (show u = Value.bool y from rx); exact PySem.W.kia_one PySem.W.kitx_bool I.kIn True.intro e (fun z => nomatch z) h
  | int i => obtain ⟨t, q⟩ := (show ∃ t, u = Value.int i t from rx); cases q; exact PySem.W.kia_one PySem.W.kitx_int I.kIn True.intro e (fun z => nomatch z) h
  | str y => obtain ⟨t, q⟩ := (show ∃ t, u = Value.str y t from rx); cases q; exact PySem.W.kia_one PySem.W.kitx_str I.kIn True.intro e (fun z => nomatch z) h
  | flt y => obtain ⟨t, q⟩ := (show ∃ t, u = Value.float y t from rx); cases q; exact PySem.W.kia_one PySem.W.kitx_float I.kIn True.intro e (fun z => nomatch z) h
  | @lst a xs ea =>
    cases (show u = Value.ref a from rx)
    obtain ⟨_, _, n, _, h1⟩ := (show ObjOk X.prog X.w H s.heap a (.lst xs) from I.hok a _ ea)
    exact PySem.W.kia_one PySem.W.kitx_list I.kIn ⟨_, h1, rfl⟩ e (fun z => nomatch z) h
  | @frz a ob xs ea =>
    cases (show u = Value.ref a from rx)
    obtain ⟨_, _, _, n, _, h1⟩ := (show ObjOk X.prog X.w H s.heap a (.frz ob (.lst xs)) from I.hok a _ ea)
    exact PySem.W.kia_one PySem.W.kitx_list I.kIn ⟨_, h1, rfl⟩ e (fun z => nomatch z) h
  | @tup a xs ea =>
    cases (show u = Value.ref a from rx)
    obtain ⟨_, _, _, p⟩ := (show ObjOk X.prog X.w H s.heap a (.tup xs) from I.hok a _ ea)
    obtain ⟨o, h1, h2, _⟩ := p
    exact PySem.W.kia_one PySem.W.kitx_tuple I.kIn ⟨o, h1, h2⟩ e (fun z => nomatch z) h
  | @dK a kvs ea =>
    cases (show u = Value.ref a from rx)
    obtain ⟨_, _, vs, _, p⟩ := (show ObjOk X.prog X.w H s.heap a (.dK kvs) from I.hok a _ ea)
    obtain ⟨o, es, ep, h1, h2, _⟩ := p
    exact PySem.W.kia_one PySem.W.kitx_dict I.kIn ⟨o, h1, h2.1⟩ e (fun z => nomatch z) h
  | @dT a kvs ea =>
    cases (show u = Value.ref a from rx)
    obtain ⟨_, _, xs, _, o, es, ep, h1, h2, _⟩ := (show ObjOk X.prog X.w H s.heap a (.dT kvs) from I.hok a _ ea)
    exact PySem.W.kia_one PySem.W.kitx_dict I.kIn ⟨o, h1, h2.1⟩ e (fun z => nomatch z) h
  | @ins a C dx fs ea cl ha hn htk hm =>
    cases (show u = Value.ref a from rx)
    obtain ⟨mA, O, _⟩ := ins_get I.hok ea
    obtain ⟨od, J, _⟩ := O.look
    exact PySem.W.kia_one (PySem.W.kitx_own (cl.get _) cl.hd ha hn htk hm) I.kIn J e (fun z => nomatch z) h
end
end L2

namespace L2
open PySem PySem.Spec PyProof.Rows

/-! ### room -/
structure Room (k : Nat) (A : Around) : Prop where
  hd : A.handled = none
  dp : A.depth + 3 * k + 5 < recursionLimit
  un : A.units + 16 * k + 200 < cLine
theorem Room.mono {j k : Nat} {A : Around} (r : Room k A) (h : j ≤ k) : Room j A := ⟨r.hd, by have := r.dp; omega, by have := r.un; omega⟩
theorem Room.deeper {k : Nat} {A : Around} (r : Room (k + 1) A) (env : Env) : Room k (A.deeper env) :=
  ⟨r.hd, by have := r.dp; show A.depth + 1 + 3 * k + 5 < _; omega, by have := r.un; show A.units + 3 + 16 * k + 200 < _; omega⟩
theorem Room.in1 {k : Nat} {A : Around} (r : Room (k + 1) A) : Room k A.in1 :=
  ⟨r.hd, by have := r.dp; show A.depth + 3 * k + 5 < _; omega, by have := r.un; show A.units + 1 + 16 * k + 200 < _; omega⟩
theorem make_depth {A : Around} {C : Addr} {us : List Value} {kw : List (Str × Value)} : (A.under (.builtin "type.__call__" ⟨.ref C :: us, kw⟩)).depth = A.depth + 1 := by
  first | rfl | simp [Around.under, Code.weight, Code.isCreation, Code.isGuard, Code.isCaller, Code.frames, Code.isFrame, guardIds]
theorem make_units {A : Around} {C : Addr} {us : List Value} {kw : List (Str × Value)} : (A.under (.builtin "type.__call__" ⟨.ref C :: us, kw⟩)).units = A.units + 1 := by
  first | rfl | simp [Around.under, Code.cUnits, Code.frames, Code.isFrame]
theorem Room.make {k : Nat} {A : Around} (r : Room (k + 1) A) (C : Addr) (us : List Value) (kw : List (Str × Value)) : Room k (A.under (.builtin "type.__call__" ⟨.ref C :: us, kw⟩)) :=
  ⟨r.hd, by have := r.dp; rw [make_depth]; omega, by have := r.un; rw [make_units]; omega⟩
theorem Room.depth {k : Nat} {A : Around} (r : Room k A) : A.depth < recursionLimit := by have := r.dp; omega
theorem Room.units {k : Nat} {A : Around} (r : Room k A) : A.units + 64 < cLine := by have := r.un; omega
theorem Room.units0 {k : Nat} {A : Around} (r : Room k A) : A.units < cLine := by have := r.un; omega

/-! ### argument lists and displays -/
def tNil : TA := fun _ H Q => Q [] H
def tCons (ta : TE) (tr : TA) : TA := fun σ H Q => ta σ H fun x H1 => tr σ H1 fun xs H2 => Q (x :: xs) H2
section
variable {X : Cx} {e : Expr} {es : List Expr} {te : TE} {t : TA} {pos : Pos}
theorem pa_nil : PA X [] tNil := fun _ _ _ _ H Q I h => Calls.spliced_nil ⟨[], H, I, .nil, h⟩
theorem pa_cons (ha : PE X e te) (hr : PA X es t) (hs : starEach (e :: es) X.env = (false, eval e X.env) :: starEach es X.env := by rfl) : PA X (e :: es) (tCons te t) := by
  intro pos pins s σ H Q I h
  rw [hs]
  show wpAny _ _ (spliced ((false, eval e X.env) :: backTo pos (starEach es X.env))) _ _ s
  refine Calls.spliced_cons (thn (ha pins s σ H _ I h) fun u s1 ⟨x, H1, I1, r1, q1⟩ => ?_)
  exact thn (hr pos pins s1 σ H1 _ I1 q1) fun us s2 ⟨xs, H2, I2, r2, q2⟩ => ⟨x :: xs, H2, I2, .cons r1 r2, q2⟩

/-- a tuple, a list of written items -/
def tTup (t : TA) : TE := fun σ H Q => t σ H fun xs H1 => xs.length ≤ sizeLine ∧ ∀ p, H1 p = none → Q (.ref p) (upd H1 p (.tup xs))
def tLst (t : TA) : TE := fun σ H Q => t σ H fun xs H1 => xs.length ≤ sizeLine ∧ ∀ p, H1 p = none → Q (.ref p) (upd H1 p (.lst xs))
theorem pe_tup {x1} (h : PA X es t) : PE X (.Tuple es x1 pos) (tTup t) := by
  intro pins s σ H Q I hq
  refine wpAny_Tuple_spliced (thn (h pos pins s σ H _ I hq) fun us s1 ⟨xs, H1, I1, r, z, q⟩ => ⟨by rw [← r.length]; exact z, ?_⟩)
  have hf : H1 s1.heap.objs.size = none := I1.hok.fresh (Nat.le_refl _)
  refine ⟨.ref s1.heap.objs.size, upd H1 s1.heap.objs.size (.tup xs), I1.laid (t' := s1.toks) (fun b u e => Heap.get?_push_of_some _ e) (Nat.le_refl _) ?_, rfl, q _ hf⟩
  exact ⟨z, us, r, ⟨_, Heap.get?_push_size _ rfl, rfl, _, rfl⟩⟩
theorem pe_lst (h : PA X es t) : PE X (.List es pos) (tLst t) := by
  intro pins s σ H Q I hq
  refine wpAny_List_spliced (thn (h pos pins s σ H _ I hq) fun us s1 ⟨xs, H1, I1, r, z, q⟩ => ⟨by rw [← r.length]; exact z, ?_⟩)
  have hf : H1 s1.heap.objs.size = none := I1.hok.fresh (Nat.le_refl _)
  refine ⟨.ref s1.heap.objs.size, upd H1 s1.heap.objs.size (.lst xs), I1.laid (t' := s1.toks) (fun b u e => Heap.get?_push_of_some _ e) (Nat.le_refl _) ?_, rfl, q _ hf⟩
  exact ⟨z, us, 0, r, Heap.get?_push_size _ rfl⟩
end

/-! ### what a def promises -/
/-- a def's promise: the bound arguments in the parameters' order, the heap, the wanted end, the wanted exception -/
abbrev Sp := List V → Hp → VK → XK → Prop
/-- how an exception lies behind a call (file 08 gives it): the callers' frames, abstract heap and state ahead of the call, the wish, the exception, the state -/
abbrev CXT := List Env → Hp → Shared → XK → Value → Shared → Prop

/-- the state at a call -/
structure Env0 (P : Program) (w : World) (K : PySem.W.Frag) (mg : Str → Option Value) (base : Heap) (A : Around) (outer : List Env) (s : Shared) (H : Hp) : Prop where
  frames : A.frames = some outer
  mod : Mod K mg base
  bs : ∀ b o, base.get? b = some o → s.heap.get? b = some o ∧ H b = none
  bsz : base.objs.size ≤ s.heap.objs.size
  funs : s.heap.FunFrames base outer
  frf : ∀ b ∈ frs outer, H b = none
  hok : HOk P w H s.heap
  bare : AllBare s.gens
/-- a call's end -/
def CE (outer : List Env) (P : Program) (w : World) (H : Hp) (s : Shared) (Q : VK) (u : Value) (s' : Shared) : Prop :=
  ∃ v H', s'.os = s.os ∧ AllBare s'.gens ∧ Un (frs outer) [] H H' s.heap s'.heap ∧ HOk P w H' s'.heap ∧ RelV v u ∧ Q v H'
def CR (CX : CXT) (outer : List Env) (P : Program) (w : World) (H : Hp) (s : Shared) (Q : VK) (E : XK) (r : Result) (s' : Shared) : Prop :=
  match r with
  | .ok (.ret u) => CE outer P w H s Q u s'
  | .ok _ => False
  | .error e => CX outer H s E e s'
structure FnOk (P : Program) (w : World) (K : PySem.W.Frag) (mg : Str → Option Value) (base : Heap) (CX : CXT) (k : Nat) (f : Addr) (fd : FuncData) (ps : List Str) (sp : Sp) : Prop where
  len : ∀ vs H Q E, sp vs H Q E → vs.length = ps.length
  run : ∀ (A : Around) (outer : List Env) (s : Shared) (H : Hp) (args : Args) (us : List Value) (vs : List V) (Q : VK) (E : XK), Room k A → Env0 P w K mg base A outer s H → BindsTo s fd args (ps.zip us) → Vals vs us → sp vs H Q E →
    codeAny (model P w) A (.call (.ref f) args) (CR CX outer P w H s Q E) s
theorem FnOk.mono {P : Program} {w : World} {K : PySem.W.Frag} {mg : Str → Option Value} {base : Heap} {CX : CXT} {j k : Nat} {f : Addr} {fd : FuncData} {ps : List Str} {sp : Sp} (F : FnOk P w K mg base CX j f fd ps sp) (h : j ≤ k) :
    FnOk P w K mg base CX k f fd ps sp := ⟨F.len, fun A outer s H args us vs Q E hr => F.run A outer s H args us vs Q E (hr.mono h)⟩
/-- a weaker promise -/
theorem FnOk.imp {P : Program} {w : World} {K : PySem.W.Frag} {mg : Str → Option Value} {base : Heap} {CX : CXT} {k : Nat} {f : Addr} {fd : FuncData} {ps : List Str} {sp sp' : Sp} (F : FnOk P w K mg base CX k f fd ps sp)
    (h : ∀ vs H Q E, sp' vs H Q E → sp vs H Q E) : FnOk P w K mg base CX k f fd ps sp' :=
  ⟨fun vs H Q E q => F.len vs H Q E (h _ _ _ _ q), fun A outer s H args us vs Q E hr he hb hv hs => F.run A outer s H args us vs Q E hr he hb hv (h _ _ _ _ hs)⟩

theorem Env0.make {P : Program} {w : World} {K : PySem.W.Frag} {mg : Str → Option Value} {base : Heap} {A : Around} {outer : List Env} {s : Shared} {H : Hp} (e : Env0 P w K mg base A outer s H) (C : Addr) (us : List Value) (kw : List (Str × Value)) :
    Env0 P w K mg base (A.under (.builtin "type.__call__" ⟨.ref C :: us, kw⟩)) outer s H := ⟨by first | exact e.frames | (simpa [Around.under, Code.envs, Code.isFrame, pushEnvs] using e.frames), e.mod, e.bs, e.bsz, e.funs, e.frf, e.hok, e.bare⟩
theorem Env0.in1 {P : Program} {w : World} {K : PySem.W.Frag} {mg : Str → Option Value} {base : Heap} {A : Around} {outer : List Env} {s : Shared} {H : Hp} (e : Env0 P w K mg base A outer s H) :
    Env0 P w K mg base A.in1 outer s H := ⟨e.frames, e.mod, e.bs, e.bsz, e.funs, e.frf, e.hok, e.bare⟩

section
variable {X : Cx} {pins : List (Addr × Obj)} {σ : St} {H : Hp} {s s' : Shared}
/-- from a body: what a callee wants -/
theorem Inv.env0 (I : Inv X pins σ H s) : Env0 X.prog X.w X.K X.mg X.base X.A X.stack s H :=
  ⟨I.ok.frames, I.ok.mod, I.bs, Nat.le_trans I.ok.bsz I.sz, I.stack, I.stkFree, I.hok, I.bare⟩
/-- behind a call -/
theorem Inv.after {Q : VK} {u : Value} (I : Inv X pins σ H s) (h : CE X.stack X.prog X.w H s Q u s') : EP X pins σ Q u s' := by
  obtain ⟨v, H', os, bare, un, hok, r, q⟩ := h
  obtain ⟨hh, g, d, t, os'⟩ := s'
  obtain rfl : os' = s.os := os
  exact ⟨v, H', I.call (h' := hh) (g' := g) (d' := d) (t' := t) (ch := []) un hok bare (fun b z => absurd z (by simp)), r, q⟩
end

/-! ### calls -/
/-- f(..): the written arguments, then the defaults dvs; E: what is wanted of an exception -/
def tCall (sp : Sp) (dvs : List V) (E : XK) (t : TA) : TE := fun σ H Q => t σ H fun vs H1 => sp (vs ++ dvs) H1 Q E
/-- o.m(..) of an instance of the class at C -/
def tMeth (C : Addr) (m : Str) (sp : Sp) (dvs : List V) (E : XK) (ta : TE) (t : TA) : TE := fun σ H Q => ta σ H fun x H1 => ∃ a dx fs, x = .ref a ∧ H1 a = some (.ins C dx fs) ∧ fs.lookup m = none ∧
  t σ H1 fun vs H2 => sp (x :: (vs ++ dvs)) H2 Q E
/-- C(..): a new instance and its dict, then __init__ -/
def tMake (C : Addr) (sp : Sp) (dvs : List V) (E : XK) (t : TA) : TE := fun σ H Q => t σ H fun vs H1 => ∀ x dx, H1 x = none → H1 dx = none → dx ≠ x →
  sp (.ref x :: (vs ++ dvs)) (upd (upd H1 dx (.own x)) x (.ins C dx [])) (fun v H2 => v = .non ∧ Q (.ref x) H2) E

/-- how the parameters are bound: us the positional arguments, kw the keywords' values by name, ds the defaults that fill up -/
def Binds (K : PySem.W.Frag) (fd : FuncData) (ps : List Str) (ds : List Value) : Prop :=
  ∀ (s : Shared) (us : List Value), K.In s.heap → (us ++ ds).length = ps.length → BindsTo s fd ⟨us, []⟩ (ps.zip (us ++ ds))
/-- every parameter is given -/
theorem Binds.all {K : PySem.W.Frag} {fd : FuncData} {ps : List Str} (h : ∀ us : List Value, us.length = ps.length → bindArgs fd ⟨us, []⟩ = pure (ps.zip us)) : Binds K fd ps [] := fun s us _ hl => by
  rw [List.append_nil] at hl ⊢
  exact .of_eq (h us hl)

/-- an exception of a callee reaches what this body wants of exceptions -/
def Passes (CX : CXT) (X : Cx) (E : XK) : Prop := ∀ (pins : List (Addr × Obj)) (σ : St) (H : Hp) (s : Shared) (e : Value) (s' : Shared), Inv X pins σ H s → CX X.stack H s E e s' → X.xe e s'

section
variable {X : Cx} {CX : CXT} {k : Nat} {f C : Addr} {fd : FuncData} {ps : List Str} {sp : Sp} {dvs : List V} {ds : List Value} {E : XK} {x m : Str} {p pos apos : Pos} {e o : Expr} {es : List Expr} {ta : TE} {t : TA}

/-- the callee runs -/
theorem run_fn {pins : List (Addr × Obj)} {σ : St} {H : Hp} {s : Shared} {Q : VK} {us : List Value} {vs : List V} (F : FnOk X.prog X.w X.K X.mg X.base CX k f fd ps sp) (hr : Room k X.A) (hb : Binds X.K fd ps ds) (hd : Vals dvs ds) (hx : Passes CX X E)
    (I : Inv X pins σ H s) (r : Vals vs us) (h : sp (vs ++ dvs) H Q E) : wpAny (model X.prog X.w) X.A (call (.ref f) us) (EP X pins σ Q) X.xe s := by
  have r2 : Vals (vs ++ dvs) (us ++ ds) := r.append hd
  have hl : (us ++ ds).length = ps.length := by rw [← r2.length]; exact F.len _ _ _ _ h
  refine wpAny_call (codeAny_mono (F.run X.A X.stack s H ⟨us, []⟩ (us ++ ds) (vs ++ dvs) Q E hr I.env0 (hb s us I.kIn hl) r2 h) fun r s' hq => ?_)
  cases r with
  | error e => exact hx pins σ H s e s' I hq
  | ok fl =>
    cases fl with
    | ret u => exact I.after hq
    | next => exact False.elim hq
    | brk => exact False.elim hq
    | cont => exact False.elim hq

theorem pe_call (F : FnOk X.prog X.w X.K X.mg X.base CX k f fd ps sp) (hr : Room k X.A) (hg : Gl X x) (hm : X.mg x = some (.ref f)) (hk : PySem.W.keepIn X.K (.ref f) = true) (hb : Binds X.K fd ps ds) (hd : Vals dvs ds) (hx : Passes CX X E)
    (ha : PA X (e :: es) t) (hdb : (x == ("__debug__" : Str)) = false := by decide) (he : starEach (e :: es) X.env = (false, eval e X.env) :: starEach es X.env := by rfl) (hpl : (backTo pos (starEach es X.env)).any (·.1) = false := by rfl) :
    PE X (.Call (.Name x p) (e :: es) [] pos) (tCall sp dvs E t) := by
  intro pins s σ H Q I h
  refine wpAny_Call_Name_kw (ld_glob I hg hm ?_ hdb)
  refine PySem.W.callWith_K (h₀ := X.base) I.ok.mod.kin hk (thn (ha pos pins s σ H _ I h) fun us s1 ⟨vs, H1, I1, r, q⟩ => ⟨I1.kIn, ?_⟩) he hpl
  exact run_fn F hr hb hd hx I1 r q
theorem pe_call0 (F : FnOk X.prog X.w X.K X.mg X.base CX k f fd ps sp) (hr : Room k X.A) (hg : Gl X x) (hm : X.mg x = some (.ref f)) (hk : PySem.W.keepIn X.K (.ref f) = true) (hb : Binds X.K fd ps ds) (hd : Vals dvs ds) (hx : Passes CX X E)
    (hdb : (x == ("__debug__" : Str)) = false := by decide) : PE X (.Call (.Name x p) [] [] pos) (tCall sp dvs E tNil) := by
  intro pins s σ H Q I h
  refine wpAny_Call_Name_kw (ld_glob I hg hm ?_ hdb)
  exact PySem.W.callWith_K0 I.kIn hk (run_fn (us := []) F hr hb hd hx I .nil h)

/-- o.m(e, ..) -/
theorem pe_meth {pl : Sem Bool} (he : PE X o ta) (c : Cls X.K C) (hm : Meth X.K C m f) (F : FnOk X.prog X.w X.K X.mg X.base CX k f fd ps sp) (hr : Room k X.A) (hb : Binds X.K fd ps ds) (hd : Vals dvs ds) (hx : Passes CX X E) (ha : PA X (e :: es) t)
    (hst : starEach (e :: es) X.env = (false, eval e X.env) :: starEach es X.env := by rfl) (hpl : (backTo pos (starEach es X.env)).any (·.1) = false := by rfl)
    (ht : eval (.Call (.Attribute o m apos) (e :: es) [] pos) X.env = (do
      let ov ← eval o X.env
      standAt apos.atName
      let (f, first) ← holding [ov] (getMethod ov m pl)
      callWith pos f first (backTo pos (starEach (e :: es) X.env)) (backToKw pos (keywordEach [] X.env))) := by rfl) :
    PE X (.Call (.Attribute o m apos) (e :: es) [] pos) (tMeth C m sp dvs E ta t) := by
  intro pins s σ H Q I h
  refine PySem.W.methodCall_KW (pl := pl) (thn (he pins s σ H _ I h) fun u s1 ⟨x, H1, I1, rx, a, dx, fs, ex, ea, l, q⟩ => ?_) ht
  subst ex
  obtain rfl : u = Value.ref a := rx
  refine getmeth_ok I1 ea c hm l ?_
  refine PySem.W.callWith_K (first := [.ref a]) (h₀ := X.base) I.ok.mod.kin hm.kp (thn (ha pos pins s1 σ H1 _ I1 q) fun us s2 ⟨vs, H2, I2, r, q2⟩ => ⟨I2.kIn, ?_⟩) hst hpl
  exact run_fn (us := .ref a :: us) (vs := .ref a :: vs) F hr hb hd hx I2 (.cons rfl r) q2
/-- o.m() -/
theorem pe_meth0 {pl : Sem Bool} (he : PE X o ta) (c : Cls X.K C) (hm : Meth X.K C m f) (F : FnOk X.prog X.w X.K X.mg X.base CX k f fd ps sp) (hr : Room k X.A) (hb : Binds X.K fd ps ds) (hd : Vals dvs ds) (hx : Passes CX X E)
    (ht : eval (.Call (.Attribute o m apos) [] [] pos) X.env = (do
      let ov ← eval o X.env
      standAt apos.atName
      let (f, first) ← holding [ov] (getMethod ov m pl)
      callWith pos f first (backTo pos (starEach [] X.env)) (backToKw pos (keywordEach [] X.env))) := by rfl) :
    PE X (.Call (.Attribute o m apos) [] [] pos) (tMeth C m sp dvs E ta tNil) := by
  intro pins s σ H Q I h
  refine PySem.W.methodCall_KW (pl := pl) (thn (he pins s σ H _ I h) fun u s1 ⟨x, H1, I1, rx, a, dx, fs, ex, ea, l, q⟩ => ?_) ht
  subst ex
  obtain rfl : u = Value.ref a := rx
  refine getmeth_ok I1 ea c hm l ?_
  exact PySem.W.callWith_K0 (first := [.ref a]) I1.kIn hm.kp (run_fn (us := [.ref a]) (vs := [.ref a]) F hr hb hd hx I1 (.cons rfl .nil) q)

/-- what a class must have to be made -/
structure Mk (K : PySem.W.Frag) (C f : Addr) : Prop where
  makes : PySem.W.makesIn K C = true
  init : PySem.W.findIn K (.ref C) "__init__" = some (some (.ref f))
  fn : PySem.W.isFn K (.ref f) = true
  kp : PySem.W.keepIn K (.ref C) = true

theorem run_make {pins : List (Addr × Obj)} {σ : St} {H : Hp} {s : Shared} {Q : VK} {us : List Value} {vs : List V} (M : Mk X.K C f) (F : FnOk X.prog X.w X.K X.mg X.base CX k f fd ps sp) (hr : Room (k + 1) X.A) (hb : Binds X.K fd ps ds) (hd : Vals dvs ds)
    (hx : Passes CX X E) (I : Inv X pins σ H s) (r : Vals vs us)
    (h : ∀ x dx, H x = none → H dx = none → dx ≠ x → sp (.ref x :: (vs ++ dvs)) (upd (upd H dx (.own x)) x (.ins C dx [])) (fun v H2 => v = .non ∧ Q (.ref x) H2) E) :
    wpAny (model X.prog X.w) X.A (call (.ref C) us) (EP X pins σ Q) X.xe s := by
  have hq := h (s.heap.objs.size + 1) s.heap.objs.size (I.hok.fresh (Nat.le_succ _)) (I.hok.fresh (Nat.le_refl _)) (Nat.ne_of_lt (Nat.lt_succ_self _))
  have I2 := Inv.made (C := C) I
  have r2 : Vals (V.ref (s.heap.objs.size + 1) :: (vs ++ dvs)) (Value.ref (s.heap.objs.size + 1) :: (us ++ ds)) := .cons rfl (r.append hd)
  have hl : (Value.ref (s.heap.objs.size + 1) :: us ++ ds).length = ps.length := by
    have e := r2.length
    rw [F.len _ _ _ _ hq] at e
    exact e.symm
  refine wpAny_call (make_map (f := f) I.kIn M.makes M.init (beq_iff_eq.mp M.fn) (codeAny_mono (F.run _ X.stack _ _ ⟨Value.ref (s.heap.objs.size + 1) :: us, []⟩ (Value.ref (s.heap.objs.size + 1) :: (us ++ ds)) _ _ E (hr.make C us [])
    (I2.env0.make C us []) (hb _ (Value.ref (s.heap.objs.size + 1) :: us) I2.kIn hl) r2 hq) fun r s' hq' => ?_))
  cases r with
  | error e => exact hx pins σ _ _ e s' I2 hq'
  | ok fl =>
    cases fl with
    | ret u =>
      obtain ⟨v, H', I3, rv, ev, q3⟩ := I2.after hq'
      subst ev
      exact ⟨rv, ⟨V.ref (s.heap.objs.size + 1), H', I3, rfl, q3⟩⟩
    | next => exact False.elim hq'
    | brk => exact False.elim hq'
    | cont => exact False.elim hq'
theorem pe_make (M : Mk X.K C f) (F : FnOk X.prog X.w X.K X.mg X.base CX k f fd ps sp) (hr : Room (k + 1) X.A) (hg : Gl X x) (hm : X.mg x = some (.ref C)) (hb : Binds X.K fd ps ds) (hd : Vals dvs ds) (hx : Passes CX X E)
    (ha : PA X (e :: es) t) (hdb : (x == ("__debug__" : Str)) = false := by decide) (he : starEach (e :: es) X.env = (false, eval e X.env) :: starEach es X.env := by rfl) (hpl : (backTo pos (starEach es X.env)).any (·.1) = false := by rfl) :
    PE X (.Call (.Name x p) (e :: es) [] pos) (tMake C sp dvs E t) := by
  intro pins s σ H Q I h
  refine wpAny_Call_Name_kw (ld_glob I hg hm ?_ hdb)
  refine PySem.W.callWith_K (h₀ := X.base) I.ok.mod.kin M.kp (thn (ha pos pins s σ H _ I h) fun us s1 ⟨vs, H1, I1, r, q⟩ => ⟨I1.kIn, ?_⟩) he hpl
  exact run_make M F hr hb hd hx I1 r q
theorem pe_make0 (M : Mk X.K C f) (F : FnOk X.prog X.w X.K X.mg X.base CX k f fd ps sp) (hr : Room (k + 1) X.A) (hg : Gl X x) (hm : X.mg x = some (.ref C)) (hb : Binds X.K fd ps ds) (hd : Vals dvs ds) (hx : Passes CX X E)
    (hdb : (x == ("__debug__" : Str)) = false := by decide) : PE X (.Call (.Name x p) [] [] pos) (tMake C sp dvs E tNil) := by
  intro pins s σ H Q I h
  refine wpAny_Call_Name_kw (ld_glob I hg hm ?_ hdb)
  exact PySem.W.callWith_K0 I.kIn M.kp (run_make (us := []) M F hr hb hd hx I .nil h)
end

/-! ### keywords -/
/-- the values of the keywords, from the left -/
def PK (X : Cx) (kws : List Keyword) (t : TA) : Prop :=
  ∀ (pos : Pos) (pins : List (Addr × Obj)) (s : Shared) (σ : St) (H : Hp) (Q : List V → Hp → Prop), Inv X pins σ H s → t σ H Q → wpAny (model X.prog X.w) X.A (evalAll ((backToKw pos (keywordEach kws X.env)).map (·.2))) (AP X pins σ Q) X.xe s
section
variable {X : Cx} {CX : CXT} {k : Nat} {f C : Addr} {fd : FuncData} {ps ks : List Str} {sp : Sp} {E : XK} {x m : Str} {p pos apos kpos : Pos} {e o : Expr} {es : List Expr} {kws : List Keyword} {te ta : TE} {t tk : TA} {nm : Option Str}
theorem pk_nil : PK X [] tNil := fun _ _ _ _ H Q I h => wpAny_evalAll_nil ⟨[], H, I, .nil, h⟩
theorem pk_cons (ha : PE X e te) (hr : PK X kws t) : PK X (⟨nm, e, kpos⟩ :: kws) (tCons te t) := by
  intro pos pins s σ H Q I h
  show wpAny _ _ (evalAll ((do let v ← eval e X.env; standAt pos; pure v) :: (backToKw pos (keywordEach kws X.env)).map (·.2))) _ _ s
  refine wpAny_evalAll_cons (wpAny_bind (thn (ha pins s σ H _ I h) fun u s1 ⟨x, H1, I1, r1, q1⟩ => wpAny_bind (wpAny_standAt (wpAny_pure ?_))))
  exact thn (hr pos pins s1 σ H1 _ I1 q1) fun us s2 ⟨xs, H2, I2, r2, q2⟩ => ⟨x :: xs, H2, I2, .cons r1 r2, q2⟩

/-- how a call with keywords binds: g puts the positional values us and the keywords' values ws (names ks) in the parameters' order, defaults among them -/
structure KBinds (K : PySem.W.Frag) (fd : FuncData) (ps ks : List Str) (g : List Value → List Value → List Value) (gV : List V → List V → List V) : Prop where
  to : ∀ (s : Shared) (us ws : List Value), K.In s.heap → (g us ws).length = ps.length → BindsTo s fd ⟨us, ks.zip ws⟩ (ps.zip (g us ws))
  rel : ∀ {vs : List V} {us : List Value} {zs : List V} {ws : List Value}, Vals vs us → Vals zs ws → Vals (gV vs zs) (g us ws)
def tCallK (sp : Sp) (gV : List V → List V → List V) (E : XK) (t tk : TA) : TE := fun σ H Q => t σ H fun vs H1 => tk σ H1 fun zs H2 => sp (gV vs zs) H2 Q E
variable {g : List Value → List Value → List Value} {gV : List V → List V → List V}
theorem run_fnk {pins : List (Addr × Obj)} {σ : St} {H : Hp} {s : Shared} {Q : VK} {us ws : List Value} {vs zs : List V} (F : FnOk X.prog X.w X.K X.mg X.base CX k f fd ps sp) (hr : Room k X.A) (hb : KBinds X.K fd ps ks g gV) (hx : Passes CX X E)
    (I : Inv X pins σ H s) (r : Vals vs us) (rz : Vals zs ws) (h : sp (gV vs zs) H Q E) : wpAny (model X.prog X.w) X.A (call (.ref f) us (ks.zip ws)) (EP X pins σ Q) X.xe s := by
  have r2 := hb.rel r rz
  have hl : (g us ws).length = ps.length := by rw [← r2.length]; exact F.len _ _ _ _ h
  refine wpAny_call (codeAny_mono (F.run X.A X.stack s H ⟨us, ks.zip ws⟩ (g us ws) (gV vs zs) Q E hr I.env0 (hb.to s us ws I.kIn hl) r2 h) fun r s' hq => ?_)
  cases r with
  | error e => exact hx pins σ H s e s' I hq
  | ok fl =>
    cases fl with
    | ret u => exact I.after hq
    | next => exact False.elim hq
    | brk => exact False.elim hq
    | cont => exact False.elim hq
/-- f(e, .., k = v, ..) -/
theorem pe_callK (F : FnOk X.prog X.w X.K X.mg X.base CX k f fd ps sp) (hr : Room k X.A) (hg : Gl X x) (hm : X.mg x = some (.ref f)) (hk : PySem.W.keepIn X.K (.ref f) = true) (hb : KBinds X.K fd ps ks g gV) (hx : Passes CX X E)
    (ha : PA X (e :: es) t) (hkw : PK X kws tk) (hall : (backToKw pos (keywordEach kws X.env)).all (·.1.isSome) = true := by rfl) (hks : (backToKw pos (keywordEach kws X.env)).filterMap (·.1) = ks := by rfl)
    (hdb : (x == ("__debug__" : Str)) = false := by decide) (he : starEach (e :: es) X.env = (false, eval e X.env) :: starEach es X.env := by rfl)
    (hpl : ((backTo pos (starEach (e :: es) X.env)).any (·.1) || (backToKw pos (keywordEach kws X.env)).any (·.1.isNone)) = false := by rfl) :
    PE X (.Call (.Name x p) (e :: es) kws pos) (tCallK sp gV E t tk) := by
  intro pins s σ H Q I h
  refine wpAny_Call_Name_kw (ld_glob I hg hm ?_ hdb)
  refine PySem.W.callWith_KW (h₀ := X.base) I.ok.mod.kin hk hall (thn (ha pos pins s σ H _ I h) fun us s1 ⟨vs, H1, I1, r, q⟩ => ?_) hpl he
  refine thn (hkw pos pins s1 σ H1 _ I1 q) fun ws s2 ⟨zs, H2, I2, rz, q2⟩ => ⟨I2.kIn, ?_⟩
  rw [hks]
  exact run_fnk F hr hb hx I2 r rz q2
end

/-! ### a def's body keeps its promise -/
/-- names: the parameters first -/
structure FnScope (N P : List Str) (sc : Scope) : Prop where
  kind : sc.kind = .function
  co : sc.isCoroutine = false
  gen : sc.isGenerator = false
  nd : N.Nodup
  pre : N.take P.length = P
  par : ∀ x ∈ P, sc.names.lookup x = some .local ∨ sc.names.lookup x = some .cell
  nofree : ∀ y ∈ sc.names, y.2 ≠ .free

theorem bindL_out {kindOf : Str → Option NameKind} {x : Str} : ∀ {binds : List (Str × Value)} {m : Str → Option Value}, (∀ v, (x, v) ∉ binds) → bindL kindOf binds m x = m x
  | [], _, _ => rfl
  | (n, v) :: r, m, h => by
    unfold bindL
    rw [bindL_out fun w hw => h w (List.mem_cons_of_mem _ hw)]
    split
    · have : x ≠ n := by rintro rfl; exact h v List.mem_cons_self
      simp [this]
    · rfl
theorem bindC_out {kindOf : Str → Option NameKind} {x : Str} : ∀ {binds : List (Str × Value)} {m : Str → Option Value}, (∀ v, (x, v) ∉ binds) → bindC kindOf binds m x = m x
  | [], _, _ => rfl
  | (n, v) :: r, m, h => by
    unfold bindC
    rw [bindC_out fun w hw => h w (List.mem_cons_of_mem _ hw)]
    split
    · rfl
    · have : x ≠ n := by rintro rfl; exact h v List.mem_cons_self
      simp [this]
theorem bindL_get {kindOf : Str → Option NameKind} {x : Str} {v : Value} : ∀ {P : List Str} {vs : List Value} {i : Nat} {m : Str → Option Value}, P.Nodup → P[i]? = some x → vs[i]? = some v → kindOf x = some .local →
    bindL kindOf (P.zip vs) m x = some v
  | [], _, _, _, _, h, _, _ => by simp at h
  | _ :: _, [], _, _, _, _, h, _ => by simp at h
  | p :: P, w :: vs, 0, m, nd, h1, h2, hk => by
    simp at h1 h2; subst h1; subst h2
    show bindL kindOf ((p, w) :: P.zip vs) m p = _
    unfold bindL
    rw [bindL_out fun v hv => (List.nodup_cons.mp nd).1 (List.of_mem_zip hv).1, if_pos hk]
    simp
  | p :: P, w :: vs, i + 1, m, nd, h1, h2, hk => by
    show bindL kindOf ((p, w) :: P.zip vs) m x = _
    unfold bindL
    exact bindL_get (i := i) (List.nodup_cons.mp nd).2 (by simpa using h1) (by simpa using h2) hk
theorem bindC_get {kindOf : Str → Option NameKind} {x : Str} {v : Value} : ∀ {P : List Str} {vs : List Value} {i : Nat} {m : Str → Option Value}, P.Nodup → P[i]? = some x → vs[i]? = some v → kindOf x ≠ some .local →
    bindC kindOf (P.zip vs) m x = some v
  | [], _, _, _, _, h, _, _ => by simp at h
  | _ :: _, [], _, _, _, _, h, _ => by simp at h
  | p :: P, w :: vs, 0, m, nd, h1, h2, hk => by
    simp at h1 h2; subst h1; subst h2
    show bindC kindOf ((p, w) :: P.zip vs) m p = _
    unfold bindC
    rw [bindC_out fun v hv => (List.nodup_cons.mp nd).1 (List.of_mem_zip hv).1, if_neg hk]
    simp
  | p :: P, w :: vs, i + 1, m, nd, h1, h2, hk => by
    show bindC kindOf ((p, w) :: P.zip vs) m x = _
    unfold bindC
    exact bindC_get (i := i) (List.nodup_cons.mp nd).2 (by simpa using h1) (by simpa using h2) hk

/-- the names' values at the entry -/
def start (N : List Str) (vs : List V) : St := vs.map some ++ List.replicate (N.length - vs.length) none

/-- the context of a def's body, at its entry; an exception leaves the frame, then lies as CX says -/
def cxOf (CX : CXT) (P : Program) (w : World) (K : PySem.W.Frag) (mg : Str → Option Value) (base : Heap) (N : List Str) (qual : Str) (scope : Scope) (f : Addr) (cd : Value) (A : Around) (outer : List Env) (s : Shared) (H : Hp) (E : XK) : Cx where
  prog := P
  w := w
  K := K
  mg := mg
  base := base
  A := A.deeper (envOfC qual scope s.heap.objs.size f cd)
  N := N
  s₀ := s
  H₀ := H
  env := envOfC qual scope s.heap.objs.size f cd
  outer := outer
  stack := envOfC qual scope s.heap.objs.size f cd :: outer
  ex := []
  calm := true
  fn := fun _ => true
  pn := []
  xe := fun e s' => wpAny (model P w) (A.deeper (envOfC qual scope s.heap.objs.size f cd)) (leaving (envOfC qual scope s.heap.objs.size f cd) e) (fun _ s'' => CX outer H s E e s'') (fun e' s'' => CX outer H s E e' s'') s'

theorem cell_has {sc : Scope} {n : Nat} {x : Str} (h : sc.names.lookup x = some .cell) : ∃ c, (cellsFrom n sc.names []).lookup x = some c := by
  have q := PySem.W.cellsFrom_some sc.names n [] (.inl h)
  exact Option.isSome_iff_exists.mp q

theorem inv_start {CX : CXT} {P : Program} {w : World} {K : PySem.W.Frag} {mg : Str → Option Value} {base : Heap} {N ps : List Str} {qual : Str} {scope : Scope} {f : Addr} {cd : Value} {A : Around} {outer : List Env} {s s1 : Shared} {H : Hp} {E : XK} {us : List Value} {vs : List V}
    (S : FnScope N ps scope) (hd : A.handled = none) (e0 : Env0 P w K mg base A outer s H) (hl : vs.length = ps.length) (r : Vals vs us)
    (x : InCallC s s.heap.objs.size (bindL (envOfC qual scope s.heap.objs.size f cd).kindOf (ps.zip us) fun _ => none) (cellsFrom (s.heap.objs.size + 1) scope.names []) (bindC (envOfC qual scope s.heap.objs.size f cd).kindOf (ps.zip us) fun _ => none) s1) :
    Inv (cxOf CX P w K mg base N qual scope f cd A outer s H E) [] (start N vs) H s1 := by
  have hpl : ps.length ≤ N.length := by have := congrArg List.length S.pre; rw [List.length_take] at this; omega
  obtain ⟨h1, tk, rfl, hk⟩ := x.done
  have noA : ∀ b : Addr, b ∉ (cxOf CX P w K mg base N qual scope f cd A outer s H E).ex := fun b z => absurd (show b ∈ ([] : List Addr) from z) (by simp)
  refine ⟨⟨e0.mod, S.kind, rfl, rfl, Nat.le_refl _, fun y z c h1 h2 => ?_, fun y hy => ?_, fun y c _ h => ?_, fun _ => hd, Around.frames_deeper e0.frames, .inr ⟨rfl, rfl⟩, fun b z => absurd z (noA b), e0.bs, e0.bsz, fun b _ _ => noA b, fun b z => absurd z (noA b), e0.funs, e0.frf⟩,
    rfl, e0.bare, Un.kept hk, ⟨_, x.toInCall.ns, fun i y v h1 h2 h3 => ?_⟩, fun y c h => ⟨_, x.cell y c h⟩, e0.hok.fresh (Nat.le_refl _), fun y c h => ?_, fun p hp => absurd (show p ∈ ([] : List (Addr × Obj)) from hp) (by simp), e0.hok.kept hk, ?_⟩
  · exact name_of_addr x.apart (PySem.mem_of_lookup h1) (PySem.mem_of_lookup h2)
  · have hy : scope.names.lookup y = some .cell ∨ scope.names.lookup y = some .free := hy
    rcases hy with hy | hy
    · exact cell_has hy
    · exact absurd rfl (S.nofree _ (PySem.mem_of_lookup hy))
  · exact Nat.le_of_lt (x.above y c (PySem.mem_of_lookup h))
  · have hi : i < vs.length := by
      unfold start at h2
      by_cases hi : i < vs.length
      · exact hi
      · rw [List.getElem?_append_right (by simpa using hi)] at h2
        rw [List.getElem?_replicate] at h2
        split at h2 <;> cases h2
    have ha : vs[i]? = some v := by
      unfold start at h2
      rw [List.getElem?_append_left (by simpa using hi), List.getElem?_map] at h2
      cases e : vs[i]? with
      | none => rw [e] at h2; cases h2
      | some a => rw [e] at h2; cases h2; rfl
    obtain ⟨u, hu, rv⟩ := r.get ha
    have hp : ps[i]? = some y := by
      rw [← S.pre, List.getElem?_take_of_lt (by omega)]; exact h1
    have ndP : ps.Nodup := by rw [← S.pre]; exact S.nd.sublist (List.take_sublist _ _)
    refine ⟨u, rv, ?_⟩
    rcases S.par y (List.mem_of_getElem? hp) with k | k
    · exact .inl ⟨k, bindL_get ndP hp hu k⟩
    · obtain ⟨c, e⟩ := cell_has (n := s.heap.objs.size + 1) k
      refine .inr ⟨.inl k, c, e, ?_⟩
      have q := x.cell y c e
      rw [bindC_get ndP hp hu (by show scope.names.lookup y ≠ _; rw [k]; decide)] at q
      exact q
  · exact e0.hok.fresh (Nat.le_of_lt (x.above y c (PySem.mem_of_lookup h)))
  · unfold start
    show _ = N.length
    rw [List.length_append, List.length_map, List.length_replicate]
    omega

/-- THE RULE: a def (or a method) of the text, by its body. The body's reading t is chosen for each entry; it is run at the parameters' values -/
theorem fn_of {CX : CXT} {P : Program} {w : World} {K : PySem.W.Frag} {mg : Str → Option Value} {base : Heap} {k : Nat} {f : Addr} {name qual : Str} {params : Arguments} {body : List Stmt} {scope : Scope} {dV kV doc pm cdv ct oc : Value} {an od : Option Addr}
    {osl : Array (Option Value)} {N ps : List Str} {sp : Sp} (lk : K.lookup f = some ⟨oc, od, .func (PySem.W.fnOf name qual params body scope dV kV doc pm an cdv ct), osl⟩) (hcd : PySem.W.codeIn K cdv qual = true) (S : FnScope N ps scope)
    (len : ∀ vs H Q E, sp vs H Q E → vs.length = ps.length)
    (hbody : ∀ (A : Around) (outer : List Env) (s : Shared) (H : Hp) (vs : List V) (Q : VK) (E : XK), Room k (A.deeper (envOfC qual scope s.heap.objs.size f cdv)) → sp vs H Q E →
      ∃ t, PSs (cxOf CX P w K mg base N qual scope f cdv A outer s H E) body t ∧ t { nx := fun _ H' => Q .non H', rt := Q } (start N vs) H) :
    FnOk P w K mg base CX (k + 1) f (PySem.W.fnOf name qual params body scope dV kV doc pm an cdv ct) ps sp := by
  refine ⟨len, fun A outer s H args us vs Q E hr e0 hb r hsp => ?_⟩
  have hl := len _ _ _ _ hsp
  have KX : K.In s.heap := e0.mod.kin.keeps fun b o e => (e0.bs b o e).1
  have lim : s.heap.NoLimit := e0.mod.nolimit.keeps fun b o e => (e0.bs b o e).1
  have hkind : ∀ y ∈ ps.zip us, scope.names.lookup y.1 = some .local ∨ (scope.names.lookup y.1 = some .cell ∧ ((cellsFrom (s.heap.objs.size + 1) scope.names []).lookup y.1).isSome = true) := fun ⟨n, v⟩ hy => by
    rcases S.par n (List.of_mem_zip hy).1 with q | q
    · exact .inl q
    · exact .inr ⟨q, PySem.W.cellsFrom_some _ _ _ (.inl q)⟩
  refine codeAny_call_function hr.depth (KX _ _ lk) rfl S.co S.gen rfl (PySem.W.codeRec_of KX hcd) (hb _ _ _ _ ?_)
  refine wpAny_newFunctionEnv_cells S.kind hkind fun env he s1 x => ?_
  subst he
  refine ⟨lim.keeps x.toInCall.keep, codeAny_func ?_⟩
  obtain ⟨t, ht, hq⟩ := hbody A outer s H vs Q E (hr.deeper _) hsp
  have I : Inv (cxOf CX P w K mg base N qual scope f cdv A outer s H E) [] (start N vs) H s1 := inv_start S hr.hd e0 hl r x
  refine wpAny_mono (ht [] s1 (start N vs) H _ I hq) (fun fl s' hs => ?_) fun e s' hs => hs
  have fin : ∀ {σ' : St} {H' : Hp} {v : V} {u : Value}, Inv (cxOf CX P w K mg base N qual scope f cdv A outer s H E) [] σ' H' s' → RelV v u → Q v H' → CE outer P w H s Q u s' :=
    fun {σ' H' v u} J rv q => ⟨v, H', J.os, J.bare, J.base, J.hok, rv, q⟩
  cases fl with
  | ret u =>
    obtain ⟨v, σ', H', J, rv, q⟩ := hs
    exact fin J rv q
  | next =>
    obtain ⟨σ', H', J, q⟩ := hs
    exact fin (v := V.non) (u := Value.none) J rfl q
  | brk =>
    obtain ⟨_, _, _, q⟩ := hs
    exact False.elim q
  | cont =>
    obtain ⟨_, _, _, q⟩ := hs
    exact False.elim q
end L2

namespace L2
open PySem PySem.Spec PyProof.Rows
section
variable {X : Cx} {x : Str} {p pos : Pos} {e : Expr} {es : List Expr} {t : TA} {id T : String} {r : List V → Hp → VK → Prop}

def tCB (r : List V → Hp → VK → Prop) (t : TA) : TE := fun σ H Q => t σ H fun vs H1 => r vs H1 Q
/-- f(e, ..), f a built-in function -/
theorem pe_callB (hc : CallR X (.builtin id) r) (hg : Gl X x) (hm : X.mg x = none) (hv : bootBuiltins x = some (.builtin id)) (ha : PA X (e :: es) t) (hn : x ≠ "__name__" := by decide) (hdb : (x == ("__debug__" : Str)) = false := by decide)
    (he : starEach (e :: es) X.env = (false, eval e X.env) :: starEach es X.env := by rfl) (hpl : (backTo pos (starEach es X.env)).any (·.1) = false := by rfl) : PE X (.Call (.Name x p) (e :: es) [] pos) (tCB r t) := by
  intro pins s σ H Q I h
  refine wpAny_Call_Name_kw (ld_blt I hg hm hv ?_ hn hdb)
  exact PyProof.Rows.callWith_builtin1 (thn (ha pos pins s σ H _ I h) fun us s1 ⟨vs, H1, I1, r1, q1⟩ => hc pins s1 σ H1 vs us Q I1 r1 q1) he hpl
/-- T(e, ..), T a built-in type -/
theorem pe_callTy (hc : CallR X (.type T) r) (hg : Gl X x) (hm : X.mg x = none) (hv : bootBuiltins x = some (.type T)) (ha : PA X (e :: es) t) (hn : x ≠ "__name__" := by decide) (hdb : (x == ("__debug__" : Str)) = false := by decide)
    (he : starEach (e :: es) X.env = (false, eval e X.env) :: starEach es X.env := by rfl) (hpl : (backTo pos (starEach es X.env)).any (·.1) = false := by rfl) : PE X (.Call (.Name x p) (e :: es) [] pos) (tCB r t) := by
  intro pins s σ H Q I h
  refine wpAny_Call_Name_kw (ld_blt I hg hm hv ?_ hn hdb)
  exact PyProof.Rows.callWith_type1 (thn (ha pos pins s σ H _ I h) fun us s1 ⟨vs, H1, I1, r1, q1⟩ => hc pins s1 σ H1 vs us Q I1 r1 q1) he hpl
/-- T() -/
theorem pe_callTy0 (hc : CallR X (.type T) r) (hg : Gl X x) (hm : X.mg x = none) (hv : bootBuiltins x = some (.type T)) (hn : x ≠ "__name__" := by decide) (hdb : (x == ("__debug__" : Str)) = false := by decide) :
    PE X (.Call (.Name x p) [] [] pos) (tCB r tNil) := by
  intro pins s σ H Q I h
  refine wpAny_Call_Name_kw (ld_blt I hg hm hv ?_ hn hdb)
  exact PyProof.Rows.callWith_type0 (hc pins s σ H [] [] Q I .nil h)
end
end L2

namespace HT
open PySem PyProof.Rows

/-- t < u of tuples of ints -/
def lexLt : List Int → List Int → Bool
  | [], [] => false
  | [], _ :: _ => true
  | _ :: _, [] => false
  | x :: xs, y :: ys => if x = y then lexLt xs ys else decide (x < y)
theorem lexLt_cons (x y : Int) (xs ys : List Int) : lexLt (x :: xs) (y :: ys) = if x = y then lexLt xs ys else decide (x < y) := rfl
theorem lexLt_nil_nil : lexLt [] [] = false := rfl
theorem lexLt_nil_cons (y : Int) (ys : List Int) : lexLt [] (y :: ys) = true := rfl
theorem lexLt_cons_nil (x : Int) (xs : List Int) : lexLt (x :: xs) [] = false := rfl

theorem eqAt_int (A : Around) (s : Shared) (a : Int) (t : Tok) (c : Int) (u : Tok) : ∃ e, SeqAt.EqAt A s (.int a t) (.int c u) e ∧ (e = true ↔ a = c) :=
  ⟨(a == c), SeqAt.EqAt.int_int a t c u, by simp⟩
theorem rcLt_int (A : Around) (s : Shared) (a : Int) (t : Tok) (c : Int) (u : Tok) (prog : Program) (w : World) (E : Value → Shared → Prop) (Q : Value → Shared → Prop) (h : Q (.bool (decide (a < c))) s) :
    wpAny (model prog w) A (richCompare .Lt (.int a t) (.int c u)) Q E s :=
  (PyProof.Rows.lt_int h : wpAny (model prog w) A (compareOp .Lt (.int a t) (.int c u)) Q E s)

section
open PySem.SeqAt
open PySem.AutoSeq1 (wpAny_loadPart')
open PySem.MeetsSeq PySem.MeetsSeq2 PySem.MeetsSeq3

theorem tuple_lt_ints (l b : Addr) (items items2 : Array Value) (n n2 : Nat) (dd dd2 : Option Addr) (sl sl2 : Array (Option Value)) (ns ms : List Int) (hi : IntsAre items.toList ns) (hj : IntsAre items2.toList ms) :
    Meets (Builtin.«tuple.__lt__» ⟨[.ref l, .ref b], []⟩)
      (fun _ R s => s.heap.get? l = some { cls := .type "tuple", dict := dd, data := .seq items n, slots := sl } ∧ s.heap.get? b = some { cls := .type "tuple", dict := dd2, data := .seq items2 n2, slots := sl2 } ∧
        R (.ok (.ret (.bool (lexLt ns ms)))) s) :=
  .of_wp fun prog w A R s h => by
    obtain ⟨hp, g, d, tk, os⟩ := s; obtain ⟨hl, hb, h⟩ := h
    have f2 := AutoSeq1.sub_tuple_tuple
    have z1 : items.size = ns.length := by rw [← hi.length]; simp
    have z2 : items2.size = ms.length := by rw [← hj.length]; simp
    wp_walk using wpAny_loadPart' hl, wpAny_loadPart' hb, wpAny_forIn_list _ (fun rest b s' => b.1 = none ∧ s' = ⟨hp, g, d, tk, os⟩ ∧ ∃ (vs ws : List Value) (ns' ms' : List Int), rest = vs.zip ws ∧
      IntsAre vs ns' ∧ IntsAre ws ms' ∧ ns'.length + items2.size = ms'.length + items.size ∧ R (.ok (.ret (.bool (lexLt ns' ms')))) ⟨hp, g, d, tk, os⟩) _
    case turn =>
      rintro ⟨y, x⟩ rest b s' ⟨hb', rfl, vs, ws, ns', ms', hz, hvi, hwi, hlen, hR⟩
      cases hvi with
      | nil => rw [List.zip_nil_left] at hz; cases hz
      | cons a t hvi' =>
        cases hwi with
        | nil => rw [List.zip_nil_right] at hz; cases hz
        | cons c u hwi' =>
          rw [List.zip_cons_cons] at hz
          injection hz with hyx hrest
          injection hyx with hy hx
          subst hy hx
          rw [lexLt_cons] at hR
          simp only [List.length_cons] at hlen
          obtain ⟨e, he, hiff⟩ := eqAt_int A.in1 ⟨hp, g, d, tk, os⟩ a t c u
          refine wpAny_bind (he prog w _ _ ?_)
          cases e with
          | true =>
            rw [if_pos (hiff.mp rfl)] at hR
            wp_walk
            exact ⟨rfl, rfl, _, _, _, _, hrest, hvi', hwi', by omega, hR⟩
          | false =>
            rw [if_neg (fun q => absurd (hiff.mpr q) Bool.false_ne_true)] at hR
            have hri := rcLt_int A.in1 ⟨hp, g, d, tk, os⟩ a t c u prog w
            wp_walk using hri
            exact ⟨_, rfl, by simpa using hR⟩
    case fin =>
      rintro ⟨b1, b2⟩ s' ⟨hb', rfl, vs, ws, ns', ms', hz, hvi, hwi, hlen, hR⟩
      simp only at hb'
      subst hb'
      have hv : lexLt ns' ms' = decide (items.size < items2.size) := by
        cases hvi with
        | nil =>
          cases hwi with
          | nil =>
            simp only [List.length_nil] at hlen
            rw [lexLt_nil_nil]
            exact (decide_eq_false (by omega)).symm
          | cons c u hw =>
            simp only [List.length_nil, List.length_cons] at hlen
            rw [lexLt_nil_cons]
            exact (decide_eq_true (by omega)).symm
        | cons a t hv =>
          cases hwi with
          | nil =>
            simp only [List.length_nil, List.length_cons] at hlen
            rw [lexLt_cons_nil]
            exact (decide_eq_false (by omega)).symm
          | cons c u hw =>
            rw [List.zip_cons_cons] at hz
            cases hz
      rw [hv] at hR
      wp_walk
      exact ⟨_, rfl, by simpa [Builtin.Tuple.tupleCompareSizes] using hR⟩
    case h =>
      exact ⟨rfl, rfl, items.toList, items2.toList, ns, ms, rfl, hi, hj, by omega, h⟩
end

section
variable {prog : Program} {w : World} {A : Around} {E : Value → Shared → Prop} {s : Shared}

theorem lt_tupInts {l b : Addr} {items items2 : Array Value} {ns ms : List Int} {Q : Value → Shared → Prop} (hl : IsTup s.heap l items) (hb : IsTup s.heap b items2) (hi : IntsAre items.toList ns) (hj : IntsAre items2.toList ms)
    (hu : A.units < cLine) (h : Q (.bool (lexLt ns ms)) s) : wpAny (model prog w) A (compareOp .Lt (.ref l) (.ref b)) Q E s := by
  obtain ⟨⟨cls, dd, data, sl⟩, ho, hc, n, hd⟩ := id hl
  obtain ⟨⟨cls2, dd2, data2, sl2⟩, ho2, hc2, n2, hd2⟩ := id hb
  simp only at hc hd hc2 hd2
  subst hc hd hc2 hd2
  exact richCompare_meets_room (op := .Lt) ⟨_, ho, rfl⟩ ⟨_, ho2, rfl⟩ PySem.F.slot_tuple_lt PySem.F.entry_tuple_lt (PySem.F.args_tuple_lt_2 _ _) (tuple_lt_ints l b items items2 n n2 dd dd2 sl sl2 ns ms hi hj)
    ⟨ho, ho2, show Value.bool (lexLt ns ms) ≠ Value.notImplemented ∧ Q (.bool (lexLt ns ms)) s from ⟨(fun x => nomatch x), h⟩⟩ hu

/-- t + u, t not empty -/
theorem cat_tup {t b : Addr} {vs ws : List Value} {Q : Value → Shared → Prop} (ht : IsTup s.heap t vs.toArray) (hb : IsTup s.heap b ws.toArray) (hv : vs ≠ [])
    (h1 : ws = [] → Q (.ref t) s) (h2 : ws ≠ [] → Q (.ref s.heap.objs.size) { s with heap := s.heap.push { cls := .type "tuple", data := .seq (vs ++ ws).toArray } })
    (hsz : vs.length + ws.length ≤ sizeLine) : wpAny (model prog w) A (binaryOp .Add (.ref t) (.ref b)) Q E s := by
  obtain ⟨⟨cls, dd, data, sl⟩, ho, hc, n, hd⟩ := id ht
  obtain ⟨⟨cls2, dd2, data2, sl2⟩, ho2, hc2, n2, hd2⟩ := id hb
  simp only at hc hd hc2 hd2
  subst hc hd hc2 hd2
  have e : vs.toArray ++ ws.toArray = (vs ++ ws).toArray := by simp
  by_cases hw : ws = []
  · exact concat_meets ⟨_, ho, rfl⟩ ⟨_, ho2, rfl⟩ noFill_tuple_add seq_tuple_add PySem.F.slot_tuple_add PySem.F.entry_tuple_add (PySem.F.args_tuple_add_2 _ _)
      (tuple_addW1 t b vs.toArray ws.toArray n n2 dd dd2 sl sl2 (by simpa using hv) (by simp [hw])) ⟨ho, ho2, h1 hw⟩
  · refine concat_meets ⟨_, ho, rfl⟩ ⟨_, ho2, rfl⟩ noFill_tuple_add seq_tuple_add PySem.F.slot_tuple_add PySem.F.entry_tuple_add (PySem.F.args_tuple_add_2 _ _)
      (tuple_addW2 t b vs.toArray ws.toArray n n2 dd dd2 sl sl2 (by simpa using hv) (by simpa using hw) (by rw [List.size_toArray, List.size_toArray]; exact hsz)) ⟨ho, ho2, ?_⟩
    rw [e]
    exact h2 hw

/-! ### t[a:b], not the whole -/
/-- a slice's bound as a place among n (d where it is left out) -/
def sIx (n d : Nat) : Option Int → Nat
  | none => d
  | some v => if v < 0 then (v + (n : Int)).toNat else min v.toNat n
theorem sIx_none (n d : Nat) : sIx n d none = d := rfl
theorem sIx_nat (n d k : Nat) : sIx n d (some (k : Int)) = min k n := by
  show (if (k : Int) < 0 then ((k : Int) + (n : Int)).toNat else min (k : Int).toNat n) = min k n
  rw [if_neg (by omega), Int.toNat_natCast]
theorem sIx_le (n d : Nat) (hd : d ≤ n) (o : Option Int) : sIx n d o ≤ n := by
  cases o with
  | none => exact hd
  | some v =>
    show (if v < 0 then (v + (n : Int)).toNat else min v.toNat n) ≤ n
    by_cases hv : v < 0
    · rw [if_pos hv]; omega
    · rw [if_neg hv]; exact Nat.min_le_right _ _
theorem clip_eq (v : Int) (n d : Nat) : (if v < 0 then max (v + (n : Int)) 0 else min v (n : Int)) = ((sIx n d (some v) : Nat) : Int) := by
  show (if v < 0 then max (v + (n : Int)) 0 else min v (n : Int)) = (((if v < 0 then (v + (n : Int)).toNat else min v.toNat n) : Nat) : Int)
  by_cases hv : v < 0
  · simp only [if_pos hv]; omega
  · simp only [if_neg hv]; omega
theorem adjust_gen (lo hi : Option Int) (n : Nat) : Builtin.Slice.sliceAdjust lo hi 1 (n : Int) = (((sIx n 0 lo : Nat) : Int), ((sIx n n hi : Nat) : Int)) := by
  have h1 : ¬ ((1 : Int) < 0) := by omega
  unfold Builtin.Slice.sliceAdjust
  simp only [h1, if_false]
  refine Prod.ext ?_ ?_
  · cases lo with
    | none => rfl
    | some v => exact clip_eq v n 0
  · cases hi with
    | none => rfl
    | some v => exact clip_eq v n n
theorem places_gen (i j : Nat) : Builtin.Slice.slicePlaces (i : Int) (j : Int) 1 = j - i := by
  unfold Builtin.Slice.slicePlaces
  have h1 : (1 : Int) > 0 := by omega
  simp only [h1, if_true, Int.ediv_one]
  split <;> omega
theorem slicePart_ {v : Value} {o : Option Int} {Q : Option Int → Shared → Prop} (p : IsPart v o) (h : Q o s) : wpAny (model prog w) A (Builtin.Slice.slicePartIndex v) Q E s := by
  cases p with
  | none => exact slicePart_none h
  | int i t => exact slicePart_int h
theorem sliceApplied_gen {sl : Addr} {vl vu : Value} {lo hi : Option Int} {n : Nat} {Q : Int × Int × Nat → Shared → Prop} (hs : s.heap.IsSliceOf sl vl vu .none) (pl : IsPart vl lo) (pu : IsPart vu hi)
    (h : Q (((sIx n 0 lo : Nat) : Int), 1, sIx n n hi - sIx n 0 lo) s) : wpAny (model prog w) A (Builtin.Slice.sliceApplied (.ref sl) (pure (n : Int))) Q E s := by
  obtain ⟨os, hos, hcs, hds⟩ := id hs
  unfold Builtin.Slice.sliceApplied Builtin.Slice.sliceFields
  refine wpAny_bind (wpAny_bind (wpAny_field hos hds (x := vl) rfl (wpAny_bind (wpAny_field hos hds (x := vu) rfl (wpAny_bind (wpAny_field hos hds (x := .none) rfl (wpAny_pure ?_)))))))
  refine wpAny_bind (slicePart_none ?_)
  show wpAny _ _ (if ((1 : Int) == 0) = true then _ else _) _ _ s
  rw [if_neg (by decide)]
  refine wpAny_bind (slicePart_ pl (wpAny_bind (slicePart_ pu (wpAny_bind (wpAny_pure ?_)))))
  show wpAny _ _ (match Builtin.Slice.sliceAdjust lo hi 1 (n : Int) with | (lo, hi) => pure (lo, (1 : Int), Builtin.Slice.slicePlaces lo hi 1)) _ _ s
  rw [adjust_gen lo hi n]
  show wpAny _ _ (pure (((sIx n 0 lo : Nat) : Int), (1 : Int), Builtin.Slice.slicePlaces ((sIx n 0 lo : Nat) : Int) ((sIx n n hi : Nat) : Int) 1)) _ _ s
  rw [places_gen]
  exact wpAny_pure h
theorem pick_gen (xs : Array Value) (i k : Nat) : ((List.range k).filterMap fun (m : Nat) => xs[((i : Int) + (m : Int) * 1).toNat]?).toArray = ((xs.toList.drop i).take k).toArray := by
  have e : (fun (m : Nat) => xs[((i : Int) + (m : Int) * 1).toNat]?) = fun m => xs[i + m]? := by
    funext m
    have : ((i : Int) + (m : Int) * 1).toNat = i + m := by omega
    rw [this]
  rw [e]
  have := pick_run xs i k
  rw [List.filterMap_map] at this
  have e2 : ((fun x => xs[x]?) ∘ fun x => i + x) = fun m => xs[i + m]? := rfl
  rw [e2] at this
  rw [this]

theorem getItem_tuple_cut {t sl : Addr} {items : Array Value} {vl vu : Value} {lo hi : Option Int} {Q : Value → Shared → Prop} (ht : IsTup s.heap t items) (hs : s.heap.IsSliceOf sl vl vu .none) (pl : IsPart vl lo) (pu : IsPart vu hi)
    (hw : ¬ (sIx items.size 0 lo = 0 ∧ sIx items.size items.size hi = items.size))
    (h : Q (.ref s.heap.objs.size) { s with heap := s.heap.push { cls := .type "tuple", data := .seq ((items.toList.drop (sIx items.size 0 lo)).take (sIx items.size items.size hi - sIx items.size 0 lo)).toArray } })
    (hsz : items.size ≤ sizeLine) : wpAny (model prog w) A (getItem (.ref t) (.ref sl)) Q E s := by
  have htake : sizeOk (.seq ((items.toList.drop (sIx items.size 0 lo)).take (sIx items.size items.size hi - sIx items.size 0 lo)).toArray) := by
    show ((items.toList.drop (sIx items.size 0 lo)).take (sIx items.size items.size hi - sIx items.size 0 lo)).toArray.size ≤ sizeLine
    rw [List.size_toArray, List.length_take, List.length_drop, Array.length_toList]
    omega
  have hj : sIx items.size items.size hi ≤ items.size := sIx_le _ _ (Nat.le_refl _) hi
  obtain ⟨os, hos, hcs, hds⟩ := id hs
  have hTs : s.TypeIs (.ref sl) "slice" := ⟨os, hos, hcs⟩
  unfold getItem
  try with_reducible refine wpAny_holding ?_
  first | refine wpAny_bind (wpAny_pure ?_) | skip
  refine wpAny_bind (wpAny_sequenceKey ht.typeIs (by decide) ?_)
  refine wpAny_bind (wpAny_callSpecial?_slot (name := Str.ofString "__getitem__") ht.typeIs PyProof.Rows.slot_tuple_getitem
    (wpAny_call_entry PyProof.Rows.slot_tuple_getitem ht.typeIs entry_tuple_getitem ?_ (args_tuple_getitem _ _)))
  show wpAny _ _ (Builtin.Tuple.tupleItemsOf (.ref t) >>= _) _ _ s
  refine wpAny_bind (tupleItemsOf_ ht ?_)
  refine wpAny_bind (wpAny_typeOf hTs ?_)
  rw [if_pos (by decide)]
  refine wpAny_bind (sliceApplied_gen hs pl pu ?_)
  have hno : ¬ ((((sIx items.size 0 lo : Nat) : Int) == 0 && (1 : Int) == 1 && (sIx items.size items.size hi - sIx items.size 0 lo) == items.size) = true) := by
    intro q
    rw [Bool.and_eq_true, Bool.and_eq_true] at q
    have q1 : ((sIx items.size 0 lo : Nat) : Int) = 0 := eq_of_beq q.1.1
    have q2 : sIx items.size items.size hi - sIx items.size 0 lo = items.size := eq_of_beq q.2
    exact hw ⟨by omega, by omega⟩
  show wpAny _ _ (if (((sIx items.size 0 lo : Nat) : Int) == 0 && (1 : Int) == 1 && (sIx items.size items.size hi - sIx items.size 0 lo) == items.size) = true then _ else _) _ _ s
  rw [if_neg hno, pick_gen]
  first
    | exact wpAny_bind (m := Builtin.Tuple.tupleExact _) (wpAny_newObj_type (wpAny_pure ⟨_, rfl, wpAny_pure h⟩) htake)
    | exact wpAny_bind (m := Builtin.Tuple.tupleExact _) (wpAny_newObj_type (wpAny_bind (wpAny_pure (wpAny_pure ⟨_, rfl, wpAny_pure h⟩))) htake)
    | exact wpAny_bind (wpAny_bind (m := Builtin.Tuple.tupleExact _) (wpAny_newObj_type (wpAny_pure (wpAny_pure ⟨_, rfl, wpAny_pure h⟩)) htake))
    | exact wpAny_bind (wpAny_bind (m := Builtin.Tuple.tupleExact _) (wpAny_newObj_type (wpAny_pure ⟨_, rfl, wpAny_pure h⟩) htake))
end
end HT

namespace L2
open PySem PySem.Spec PyProof.Rows

/-! ### the parts of a slice -/
abbrev TO := St → Hp → (Option Int → Hp → Prop) → Prop
/-- a slice's part (left out, or an int) -/
def PO (X : Cx) (e : Option Expr) (t : TO) : Prop :=
  ∀ (pins : List (Addr × Obj)) (s : Shared) (σ : St) (H : Hp) (Q : Option Int → Hp → Prop), Inv X pins σ H s → t σ H Q →
    wpAny (model X.prog X.w) X.A (evalPart e X.env) (fun u s' => ∃ o H', Inv X pins σ H' s' ∧ IsPart u o ∧ Q o H') X.xe s
def tNoPart : TO := fun _ H Q => Q none H
def tPart (t : TE) : TO := fun σ H Q => t σ H fun x H1 => ∃ i, x = .int i ∧ Q (some i) H1

theorem intsAre_of {ns : List Int} : ∀ {us : List Value}, Vals (ns.map V.int) us → IntsAre us ns := by
  induction ns with
  | nil => intro us r; rw [List.map_nil] at r; cases r; exact .nil
  | cons n ns ih =>
    intro us r
    rw [List.map_cons] at r
    cases r with
    | cons r1 r2 =>
      obtain ⟨t, e⟩ := r1
      subst e
      exact .cons n t (ih r2)

section
variable {X : Cx} {e : Expr} {te : TE} {lo hi : Option Expr} {tl th : TO} {pos p2 : Pos}

theorem po_none : PO X none tNoPart := by
  intro pins s σ H Q I h
  rw [evalPart_none]
  exact wpAny_pure ⟨none, H, I, .none, h⟩
theorem po_some (h : PE X e te) : PO X (some e) (tPart te) := by
  intro pins s σ H Q I hw
  rw [evalPart_some]
  refine thn (h pins s σ H _ I hw) fun u s1 ⟨x, H1, I1, r1, q1⟩ => ?_
  obtain ⟨i, rfl, q⟩ := q1
  obtain ⟨t, rfl⟩ := r1
  exact ⟨some i, H1, I1, .int i t, q⟩

/-- what a slice of a value is, by values: the slice object stands at sl -/
def SlR (X : Cx) (r : V → Option Int → Option Int → Hp → VK → Prop) : Prop :=
  ∀ (pins : List (Addr × Obj)) (s : Shared) (σ : St) (H : Hp) (x : V) (v vl vu : Value) (lo hi : Option Int) (sl : Addr) (Q : VK), Inv X pins σ H s → RelV x v → s.heap.IsSliceOf sl vl vu .none → IsPart vl lo → IsPart vu hi → r x lo hi H Q →
    ∃ T id, typeLookup (.type T) "__getitem__" = pure (some (.builtin id)) ∧ s.TypeIs v T ∧ wpAny (model X.prog X.w) X.A (getItem v (.ref sl)) (EP X pins σ Q) X.xe s
theorem SlR.or {r r' : V → Option Int → Option Int → Hp → VK → Prop} (h : SlR X r) (h' : SlR X r') : SlR X (fun x lo hi H Q => r x lo hi H Q ∨ r' x lo hi H Q) := by
  intro pins s σ H x v vl vu lo hi sl Q I rx hs pl pu q
  rcases q with q | q
  · exact h pins s σ H x v vl vu lo hi sl Q I rx hs pl pu q
  · exact h' pins s σ H x v vl vu lo hi sl Q I rx hs pl pu q
def tSl (r : V → Option Int → Option Int → Hp → VK → Prop) (te : TE) (tl th : TO) : TE := fun σ H Q => te σ H fun x H1 => tl σ H1 fun l H2 => th σ H2 fun u H3 => r x l u H3 Q
/-- a[lo:hi], any a -/
theorem pe_slice {r : V → Option Int → Option Int → Hp → VK → Prop} (hr : SlR X r) (he : PE X e te) (hl : PO X lo tl) (hu : PO X hi th) : PE X (.Subscript e (.Slice lo hi none p2) pos) (tSl r te tl th) := by
  intro pins s σ H Q I h
  refine Subscript_ (thn (he pins s σ H _ I h) fun v s1 ⟨x, H1, I1, r1, q1⟩ => ?_)
  refine wpAny_Slice (thn (hl pins s1 σ H1 _ I1 q1) fun vl s2 ⟨l, H2, I2, pl, q2⟩ => thn (hu pins s2 σ H2 _ I2 q2) fun vu s3 ⟨u, H3, I3, pu, q3⟩ => ?_)
  rw [evalPart_none]
  refine wpAny_pure ?_
  have I4 : Inv X pins σ H3 { s3 with heap := s3.heap.push { cls := .type "slice", data := .fields #[vl, vu, .none] } } := I3.kept (t' := s3.toks) fun b ob q => Heap.get?_push_of_some _ q
  obtain ⟨T, id, hT, ht, hg⟩ := hr pins { s3 with heap := s3.heap.push { cls := .type "slice", data := .fields #[vl, vu, .none] } } σ H3 x v vl vu l u s3.heap.objs.size Q I4 r1 (Heap.IsSliceOf.new ..) pl pu q3
  show wpAny (model X.prog X.w) X.A (subscriptTail e (.Slice lo hi none p2) v (.ref s3.heap.objs.size)) (EP X pins σ Q) X.xe { s3 with heap := s3.heap.push { cls := .type "slice", data := .fields #[vl, vu, .none] } }
  exact tail_any (ops := [.ref s3.heap.objs.size, v]) ht hT hg (by with_unfolding_all rfl)

/-- the items of xs[lo:hi] -/
def cutV (xs : List V) (lo hi : Option Int) : List V := (xs.drop (HT.sIx xs.length 0 lo)).take (HT.sIx xs.length xs.length hi - HT.sIx xs.length 0 lo)
theorem cutV_length (xs : List V) (lo hi : Option Int) : (cutV xs lo hi).length ≤ xs.length := by
  unfold cutV
  rw [List.length_take, List.length_drop]
  omega
/-- t[lo:hi], not the whole of it (the whole would be t itself) -/
def rSlT (K : PySem.W.Frag) : V → Option Int → Option Int → Hp → VK → Prop := fun x lo hi H Q => ∃ a xs, x = .ref a ∧ SqT K H a xs ∧
  ¬ (HT.sIx xs.length 0 lo = 0 ∧ HT.sIx xs.length xs.length hi = xs.length) ∧ ∀ p, H p = none → Q (.ref p) (upd H p (.tup (cutV xs lo hi)))
theorem sl_tup : SlR X (rSlT X.K) := by
  intro pins s σ H x v vl vu lo hi sl Q I rx hs pl pu h
  obtain ⟨a, xs, rfl, hx, hw, q⟩ := h
  cases rx
  obtain ⟨its, r, ht, hz⟩ := I.tuple hx
  have hlen : its.toArray.size = xs.length := by rw [List.size_toArray]; exact r.length.symm
  refine ⟨"tuple", _, PyProof.Rows.slot_tuple_getitem.lookup, ht.typeIs, ?_⟩
  refine HT.getItem_tuple_cut ht hs pl pu (by rw [hlen]; exact hw) ?_ (by rw [hlen]; exact hz)
  rw [hlen]
  refine ⟨.ref s.heap.objs.size, _, I.laid (t' := s.toks) (o := .tup (cutV xs lo hi)) (fun b ob q => Heap.get?_push_of_some _ q) (Nat.le_refl _) ?_, rfl, q _ (I.hok.fresh (Nat.le_refl _))⟩
  exact ⟨Nat.le_trans (cutV_length xs lo hi) hz, _, (r.drop (HT.sIx xs.length 0 lo)).take (HT.sIx xs.length xs.length hi - HT.sIx xs.length 0 lo), IsTup.new _ _⟩

/-! ### t < u, t + u -/
def rLtT (K : PySem.W.Frag) : R2 := fun x y H Q => ∃ a b ns ms, x = .ref a ∧ y = .ref b ∧ SqT K H a (ns.map V.int) ∧ SqT K H b (ms.map V.int) ∧ Q (.bl (HT.lexLt ns ms)) H
theorem op_ltT (hu : X.A.units < cLine) : OpR X (compareOp .Lt) (rLtT X.K) := by
  intro pins s σ H x y v u Q I rx ry h
  obtain ⟨a, b, ns, ms, rfl, rfl, ha, hb, q⟩ := h
  cases rx
  cases ry
  obtain ⟨its, r1, p1, _⟩ := I.tuple ha
  obtain ⟨its2, r2, p2, _⟩ := I.tuple hb
  have i1 : IntsAre its.toArray.toList ns := intsAre_of r1
  have i2 : IntsAre its2.toArray.toList ms := intsAre_of r2
  exact HT.lt_tupInts p1 p2 i1 i2 hu ⟨.bl (HT.lexLt ns ms), H, I, rfl, q⟩
/-- t + u, t not empty: u empty gives t itself -/
def rCatT (K : PySem.W.Frag) : R2 := fun x y H Q => ∃ a b xs ys, x = .ref a ∧ y = .ref b ∧ SqT K H a xs ∧ SqT K H b ys ∧ xs ≠ [] ∧ xs.length + ys.length ≤ sizeLine ∧
  (ys = [] → Q (.ref a) H) ∧ (ys ≠ [] → ∀ p, H p = none → Q (.ref p) (upd H p (.tup (xs ++ ys))))
theorem Vals.nil_iff {xs : List V} {us : List Value} (r : Vals xs us) : us = [] ↔ xs = [] := by
  cases r with
  | nil => simp
  | cons _ _ => simp
theorem op_catT : OpR X (binaryOp .Add) (rCatT X.K) := by
  intro pins s σ H x y v u Q I rx ry h
  obtain ⟨a, b, xs, ys, rfl, rfl, ha, hb, hx, hz, q1, q2⟩ := h
  cases rx
  cases ry
  obtain ⟨its, r1, p1, _⟩ := I.tuple ha
  obtain ⟨its2, r2, p2, _⟩ := I.tuple hb
  refine HT.cat_tup p1 p2 (fun z => hx (r1.nil_iff.mp z)) (fun z => ⟨.ref a, H, I, rfl, q1 (r2.nil_iff.mp z)⟩) (fun z => ?_) (by rw [← r1.length, ← r2.length]; exact hz)
  refine ⟨.ref s.heap.objs.size, _, I.laid (t' := s.toks) (o := .tup (xs ++ ys)) (fun b ob q => Heap.get?_push_of_some _ q) (Nat.le_refl _) ?_, rfl, q2 (fun w => z (r2.nil_iff.mpr w)) _ (I.hok.fresh (Nat.le_refl _))⟩
  exact ⟨by rw [List.length_append]; exact hz, _, r1.append r2, IsTup.new _ _⟩
/-- tuple(t) -/
theorem call_tupleT : CallR X (.type "tuple") (fun xs H Q => ∃ a ys, xs = [.ref a] ∧ SqT X.K H a ys ∧ Q (.ref a) H) := by
  intro pins s σ H xs us Q I r h
  obtain ⟨a, ys, rfl, ha, q⟩ := h
  obtain ⟨u, rfl, ru⟩ := vals1 r
  cases ru
  obtain ⟨its, _, p1, _⟩ := I.tuple ha
  exact call_tuple_same (items := its.toArray) p1 ⟨.ref a, H, I, rfl, q⟩
end
end L2

namespace L2
open PySem PySem.Spec PyProof.Rows

/-! ### places -/
/-- the place that an index of any sign means -/
def ixN (n : Nat) (i : Int) : Option Nat := if 0 ≤ i then (if i < n then some i.toNat else none) else if -(n : Int) ≤ i then some (i + n).toNat else none
def atI {α : Type} (xs : List α) (i : Int) : Option α := (ixN xs.length i).bind fun j => xs[j]?
theorem ixN_seq {n : Nat} {i : Int} {j : Nat} (h : ixN n i = some j) : seqIndex? i n = some j ∧ j < n ∧ -(n : Int) ≤ i ∧ i < n := by
  unfold ixN at h
  by_cases h0 : 0 ≤ i
  · rw [if_pos h0] at h
    by_cases h1 : i < n
    · rw [if_pos h1] at h
      have e : i.toNat = j := Option.some.inj h
      exact ⟨by rw [seqIndex_of h0 h1, e], by omega, by omega, h1⟩
    · rw [if_neg h1] at h; cases h
  · rw [if_neg h0] at h
    by_cases h1 : -(n : Int) ≤ i
    · rw [if_pos h1] at h
      have e : (i + n).toNat = j := Option.some.inj h
      exact ⟨by rw [seqIndex_neg (by omega) h1, e], by omega, h1, by omega⟩
    · rw [if_neg h1] at h; cases h
theorem atI_get {α : Type} {xs : List α} {i : Int} {v : α} (h : atI xs i = some v) : ∃ j, seqIndex? i xs.length = some j ∧ xs[j]? = some v ∧ j < xs.length ∧ -(xs.length : Int) ≤ i ∧ i < xs.length := by
  unfold atI at h
  cases e : ixN xs.length i with
  | none => rw [e] at h; cases h
  | some j =>
    rw [e] at h
    obtain ⟨h1, h2, h3, h4⟩ := ixN_seq e
    exact ⟨j, h1, h, h2, h3, h4⟩
theorem atI_nat {α : Type} {xs : List α} {j : Nat} {v : α} (h : xs[j]? = some v) : atI xs (j : Int) = some v := by
  have hj : j < xs.length := (List.getElem?_eq_some_iff.mp h).1
  have e : ixN xs.length (j : Int) = some j := by
    unfold ixN
    rw [if_pos (by omega), if_pos (by omega)]; simp
  unfold atI; rw [e]; exact h
theorem atI_last {α : Type} (xs : List α) (v : α) : atI (xs ++ [v]) (-1) = some v := by
  have hl : (xs ++ [v]).length = xs.length + 1 := by simp
  have e : ixN (xs ++ [v]).length (-1) = some xs.length := by
    unfold ixN
    rw [hl, if_neg (by decide), if_pos (by omega)]
    congr 1
    omega
  unfold atI
  rw [e]
  show (xs ++ [v])[xs.length]? = some v
  simp

/-! ### what may be subscripted -/
/-- what stands as an index of a plain subscript -/
def PlainIx (b : Expr) : Prop := ∀ o i, subscripted b false o i = operate [o, i] (getItem o i)
/-- a subscript by values -/
def IxR (X : Cx) (r : R2) : Prop :=
  ∀ (value slice : Expr) (pins : List (Addr × Obj)) (s : Shared) (σ : St) (H : Hp) (x y : V) (v u : Value) (Q : VK), Inv X pins σ H s → RelV x v → RelV y u → r x y H Q →
    subscripted slice false v u = operate [v, u] (getItem v u) → wpAny (model X.prog X.w) X.A (subscriptTail value slice v u) (EP X pins σ Q) X.xe s
/-- a call of a builtin's method by values: the receiver, the arguments -/
def MtR (X : Cx) (id : String) (r : V → List V → Hp → VK → Prop) : Prop :=
  ∀ (pins : List (Addr × Obj)) (s : Shared) (σ : St) (H : Hp) (x : V) (xs : List V) (v : Value) (us : List Value) (Q : VK), Inv X pins σ H s → RelV x v → Vals xs us → r x xs H Q →
    wpAny (model X.prog X.w) X.A (call (.builtin id) (v :: us)) (EP X pins σ Q) X.xe s
section
variable {X : Cx} {a b : Expr} {ta tb : TE} {pos : Pos}
theorem IxR.or {r r' : R2} (h : IxR X r) (h' : IxR X r') : IxR X (fun x y H Q => r x y H Q ∨ r' x y H Q) := by
  intro value slice pins s σ H x y v u Q I rx ry q hs
  rcases q with q | q
  · exact h value slice pins s σ H x y v u Q I rx ry q hs
  · exact h' value slice pins s σ H x y v u Q I rx ry q hs
theorem MtR.or {id : String} {r r' : V → List V → Hp → VK → Prop} (h : MtR X id r) (h' : MtR X id r') : MtR X id (fun x xs H Q => r x xs H Q ∨ r' x xs H Q) := by
  intro pins s σ H x xs v us Q I rx rs q
  rcases q with q | q
  · exact h pins s σ H x xs v us Q I rx rs q
  · exact h' pins s σ H x xs v us Q I rx rs q
/-- a[b] -/
theorem pe_ix {r : R2} (hr : IxR X r) (ha : PE X a ta) (hb : PE X b tb) (hs : PlainIx b) : PE X (.Subscript a b pos) (tOp r ta tb) := by
  intro pins s σ H Q I h
  exact Subscript_ (binT ha hb I h fun v u s2 x y H2 I2 rx ry q => hr a b pins s2 σ H2 x y v u Q I2 rx ry q (hs _ _))

def rIxL (K : PySem.W.Frag) : R2 := fun x y H Q => ∃ p xs i v, x = .ref p ∧ y = .int i ∧ SqL K H p xs ∧ atI xs i = some v ∧ Q v H
def rIxT (K : PySem.W.Frag) : R2 := fun x y H Q => ∃ p xs i v, x = .ref p ∧ y = .int i ∧ SqT K H p xs ∧ atI xs i = some v ∧ Q v H
def rIxS : R2 := fun x y H Q => ∃ z i c, x = .str z ∧ y = .int i ∧ z.length ≤ sizeLine ∧ atI z.cps.toList i = some c ∧ Q (.str ⟨#[c]⟩) H
theorem ix_list : IxR X (rIxL X.K) := by
  intro value slice pins s σ H x y v u Q I rx ry h hs
  obtain ⟨p, xs, i, z, rfl, rfl, hq, he, q⟩ := h
  cases rx
  obtain ⟨t, rfl⟩ := ry
  obtain ⟨its, r, pl, hz⟩ := I.list hq
  obtain ⟨j, h1, h2, h3, h4, h5⟩ := atI_get he
  obtain ⟨w, ew, rw'⟩ := r.get h2
  have hl := r.length
  have hn := line63
  have fin : EP X pins σ Q w s := ⟨z, H, I, rw', q⟩
  by_cases h0 : 0 ≤ i
  · have hj : i.toNat = j := by
      rw [seqIndex_of h0 h5] at h1
      exact Option.some.inj h1
    exact item_listR pl.isList h0 (by omega) (by rw [hj]; simpa using ew) fin hs
  · have hj : (i + (its.toArray.size : Int)).toNat = j := by
      rw [seqIndex_neg (by omega) h4] at h1
      rw [List.size_toArray, ← hl]
      exact Option.some.inj h1
    exact subscriptTail_builtinR (x := w) pl.isList.typeIs slot_list_getitem.lookup
      (wpAny_getItem_list_neg (Q := fun r s' => r = w ∧ EP X pins σ Q r s') pl.isList (by omega) (by rw [List.size_toArray] <;> omega) (by omega) (by rw [hj]; simpa using ew) ⟨rfl, fin⟩) hs
theorem ix_tup : IxR X (rIxT X.K) := by
  intro value slice pins s σ H x y v u Q I rx ry h hs
  obtain ⟨p, xs, i, z, rfl, rfl, hq, he, q⟩ := h
  cases rx
  obtain ⟨t, rfl⟩ := ry
  obtain ⟨its, r, pl, hz⟩ := I.tuple hq
  obtain ⟨j, h1, h2, h3, h4, h5⟩ := atI_get he
  obtain ⟨w, ew, rw'⟩ := r.get h2
  have hl := r.length
  have hn := line63
  have fin : EP X pins σ Q w s := ⟨z, H, I, rw', q⟩
  exact subscriptTail_builtinR (x := w) pl.typeIs slot_tuple_getitem.lookup
    (getItem_tuple (j := j) (Q := fun r s' => r = w ∧ EP X pins σ Q r s') pl (by omega) (by omega) (by rw [List.size_toArray, ← hl]; exact h1) (by simpa using ew) ⟨rfl, fin⟩) hs
theorem ix_str : IxR X rIxS := by
  intro value slice pins s σ H x y v u Q I rx ry h hs
  obtain ⟨z, i, c, rfl, rfl, hz, he, q⟩ := h
  obtain ⟨t, rfl⟩ := rx
  obtain ⟨t', rfl⟩ := ry
  obtain ⟨j, h1, h2, h3, h4, h5⟩ := atI_get he
  have hl : z.cps.toList.length = z.length := by simp [Str.length]
  rw [hl] at h1 h4 h5
  have hn := line63
  exact tail_any (typeIs_str s z t) slot_str_getitem.lookup (getItem_str (c := c) (by
    have e1 : decide (i < -(2 ^ 63 : Int)) = false := decide_eq_false (by omega)
    have e2 : decide (i ≥ 2 ^ 63) = false := decide_eq_false (by omega)
    rw [e1, e2, Bool.or_false]) (by rw [h1]; simpa using h2) ⟨.str ⟨#[c]⟩, H, I.tok _, ⟨_, rfl⟩, q⟩) hs
/-- list, tuple or str -/
def rIx (K : PySem.W.Frag) : R2 := fun x y H Q => rIxL K x y H Q ∨ rIxT K x y H Q ∨ rIxS x y H Q
theorem ix_seq : IxR X (rIx X.K) := ix_list.or (ix_tup.or ix_str)

/-! ### xs[i] = v, any sign -/
/-- the list's object behind a store -/
theorem mapSeq_set (its : List Value) (n j : Nat) (u : Value) : Obj.mapSeq (·.setIfInBounds j u) { cls := .type "list", data := .seq its.toArray n } = { cls := .type "list", data := .seq (its.set j u).toArray n } := by
  simp [Obj.mapSeq]
theorem Inv.lst {pins : List (Addr × Obj)} {σ : St} {H : Hp} {s : Shared} {p : Addr} {xs : List V} (I : Inv X pins σ H s) (h : H p = some (.lst xs)) :
    ∃ (its : List Value) (n : Nat), Vals xs its ∧ s.heap.get? p = some { cls := .type "list", data := .seq its.toArray n } ∧ xs.length ≤ sizeLine := by
  obtain ⟨z, its, n, r, e⟩ := I.hok p _ h
  exact ⟨its, n, r, e, z⟩
/-- the list at p is written by an update of its object -/
theorem Inv.lstUpd {pins : List (Addr × Obj)} {σ : St} {H : Hp} {s : Shared} {p : Addr} {xs ys : List V} {its its' : List Value} {n n' : Nat} {f : Obj → Obj} (I : Inv X pins σ H s) (h : H p = some (.lst xs))
    (ho : s.heap.get? p = some { cls := .type "list", data := .seq its.toArray n }) (hf : f { cls := .type "list", data := .seq its.toArray n } = { cls := .type "list", data := .seq its'.toArray n' }) (r : Vals ys its') (hz : ys.length ≤ sizeLine) (t : Nat) :
    Inv X pins σ (upd H p (.lst ys)) { s with heap := s.heap.update p f, toks := t } := by
  have e : (s.heap.update p f).get? p = some { cls := .type "list", data := .seq its'.toArray n' } := by
    rw [Heap.get?_update_self f ho (by rw [hf] <;> rfl), hf]
  refine I.write (x := p) (e := p) (by rw [h]; trivial) (.inl rfl) (fun b u hb q => (Heap.get?_update_other _ _ (Ne.symm hb)).trans q) ⟨_, e⟩ ?_
  exact ⟨hz, its', n', r, e⟩
def rSetL : V → V → V → Hp → (Hp → Prop) → Prop := fun o i v H Q => ∃ p xs k j, o = .ref p ∧ i = .int k ∧ H p = some (.lst xs) ∧ ixN xs.length k = some j ∧ Q (upd H p (.lst (xs.set j v)))
theorem set_list : PSet X rSetL := by
  intro pins s σ H o i v ov iv u Q I ro ri rv h
  obtain ⟨p, xs, k, j, rfl, rfl, hp, hj, q⟩ := h
  cases ro
  obtain ⟨t, rfl⟩ := ri
  obtain ⟨its, n, r, ho, hz⟩ := I.lst hp
  obtain ⟨h1, h2, h3, h4⟩ := ixN_seq hj
  have hl := r.length
  have hn := line63
  have I' : Inv X pins σ (upd H p (.lst (xs.set j v))) { s with heap := s.heap.update p (Obj.mapSeq (·.setIfInBounds j u)) } :=
    I.lstUpd hp ho (mapSeq_set its n j u) (r.set rv j) (by rw [List.length_set]; exact hz) s.toks
  by_cases h0 : 0 ≤ k
  · have hk : k.toNat = j := by
      rw [seqIndex_of h0 h4] at h1
      exact Option.some.inj h1
    exact PySem.W.ki_setAt ho h0 (by omega) (by rw [List.size_toArray, ← hl]; exact h4) (by rw [hk]; exact ⟨_, I', q⟩)
  · have hk : (k + (its.toArray.size : Int)).toNat = j := by
      rw [seqIndex_neg (by omega) h3] at h1
      rw [List.size_toArray, ← hl]
      exact Option.some.inj h1
    exact PySem.W.ki_setBack ho (by omega) (by rw [List.size_toArray, ← hl]; exact h3) (by omega) (by rw [hk]; exact ⟨_, I', q⟩)

/-! ### slices -/
theorem slice_bounds (lo hi : Option Int) (n : Nat) : (sliceBounds lo hi none n).1 = ((HT.sIx n 0 lo : Nat) : Int) ∧ (sliceBounds lo hi none n).2.1 = ((HT.sIx n n hi : Nat) : Int) ∧ (sliceBounds lo hi none n).2.2 = 1 := by
  refine ⟨?_, ?_, rfl⟩
  · cases lo with
    | none => simp [sliceBounds, HT.sIx]
    | some i =>
      simp only [sliceBounds, HT.sIx, Option.getD_none, show (1 : Int) > 0 by decide, if_true]
      by_cases h : i < 0
      · simp only [h, if_true] <;> omega
      · simp only [h, if_false] <;> omega
  · cases hi with
    | none => simp [sliceBounds, HT.sIx]
    | some i =>
      simp only [sliceBounds, HT.sIx, Option.getD_none, show (1 : Int) > 0 by decide, if_true]
      by_cases h : i < 0
      · simp only [h, if_true] <;> omega
      · simp only [h, if_false] <;> omega
theorem slicePick_cut (its : List Value) (lo hi : Option Int) : slicePick its.toArray lo hi none = ((its.drop (HT.sIx its.length 0 lo)).take (HT.sIx its.length its.length hi - HT.sIx its.length 0 lo)).toArray := by
  obtain ⟨h1, h2, h3⟩ := slice_bounds lo hi its.toArray.size
  unfold slicePick
  rw [h1, h2, h3]
  simp only [sliceRange_one, pick_run, List.size_toArray] <;> rfl
/-- xs[lo:hi] of a list: a new list -/
def rSlL (K : PySem.W.Frag) : V → Option Int → Option Int → Hp → VK → Prop := fun x lo hi H Q => ∃ a xs, x = .ref a ∧ SqL K H a xs ∧ ∀ p, H p = none → Q (.ref p) (upd H p (.lst (cutV xs lo hi)))
theorem sl_list : SlR X (rSlL X.K) := by
  intro pins s σ H x v vl vu lo hi sl Q I rx hs pl pu h
  obtain ⟨a, xs, rfl, hx, q⟩ := h
  cases rx
  obtain ⟨its, r, ht, hz⟩ := I.list hx
  have hlen := r.length
  refine ⟨"list", _, slot_list_getitem.lookup, ht.isList.typeIs, ?_⟩
  refine wpAny_getItem_list_slice ht.isList hs pl pu .none (by simp) ?_ (by rw [List.size_toArray] <;> omega)
  rw [slicePick_cut, ← hlen]
  refine ⟨.ref s.heap.objs.size, _, I.laid (t' := s.toks) (o := .lst (cutV xs lo hi)) (fun b ob q => Heap.get?_push_of_some _ q) (Nat.le_refl _) ?_, rfl, q _ (I.hok.fresh (Nat.le_refl _))⟩
  exact ⟨Nat.le_trans (cutV_length xs lo hi) hz, _, 0, (r.drop (HT.sIx xs.length 0 lo)).take (HT.sIx xs.length xs.length hi - HT.sIx xs.length 0 lo), Heap.get?_push_size _ rfl⟩

/-! ### in, not in: flat items -/
def flatV : V → Bool
  | .non => true
  | .bl _ => true
  | .int _ => true
  | .str _ => true
  | _ => false
/-- == of flat values -/
def eqV : V → V → Bool
  | .non, .non => true
  | .bl a, .bl b => a == b
  | .bl a, .int b => (if a then 1 else 0) == b
  | .int a, .bl b => a == (if b then 1 else 0)
  | .int a, .int b => a == b
  | .str a, .str b => a == b
  | _, _ => false
theorem eqAt_V {A : Around} {s : Shared} {y x : V} {u v : Value} (ry : RelV y u) (rx : RelV x v) (fy : flatV y = true) (fx : flatV x = true) : SeqAt.EqAt A s u v (eqV y x) := by
  cases y with
  | non =>
    cases ry
    cases x with
    | non => cases rx; exact SeqAt.EqAt.same _
    | bl b => cases rx; exact SeqAt.EqAt.none_bool b
    | int b => obtain ⟨t, rfl⟩ := rx; exact SeqAt.EqAt.none_int b t
    | str b => obtain ⟨t, rfl⟩ := rx; exact SeqAt.EqAt.none_str b t
    | _ => exact absurd (show false = true from fx) Bool.false_ne_true
  | bl a =>
    cases ry
    cases x with
    | non => cases rx; exact SeqAt.EqAt.bool_none a
    | bl b => cases rx; exact SeqAt.EqAt.bool_bool a b
    | int b => obtain ⟨t, rfl⟩ := rx; exact SeqAt.EqAt.bool_int a b t
    | str b => obtain ⟨t, rfl⟩ := rx; exact SeqAt.EqAt.bool_str a b t
    | _ => exact absurd (show false = true from fx) Bool.false_ne_true
  | int a =>
    obtain ⟨t', rfl⟩ := ry
    cases x with
    | non => cases rx; exact SeqAt.EqAt.int_none a t'
    | bl b => cases rx; exact SeqAt.EqAt.int_bool a t' b
    | int b => obtain ⟨t, rfl⟩ := rx; exact SeqAt.EqAt.int_int a t' b t
    | str b => obtain ⟨t, rfl⟩ := rx; exact SeqAt.EqAt.int_str a t' b t
    | _ => exact absurd (show false = true from fx) Bool.false_ne_true
  | str a =>
    obtain ⟨t', rfl⟩ := ry
    cases x with
    | non => cases rx; exact SeqAt.EqAt.str_none a t'
    | bl b => cases rx; exact SeqAt.EqAt.str_bool a t' b
    | int b => obtain ⟨t, rfl⟩ := rx; exact SeqAt.EqAt.str_int a t' b t
    | str b => obtain ⟨t, rfl⟩ := rx; exact SeqAt.EqAt.str_str a t' b t
    | _ => exact absurd (show false = true from fx) Bool.false_ne_true
  | _ => exact absurd (show false = true from fy) Bool.false_ne_true
/-- the items' answers, read off the values (a value's own answer does not lean on its token) -/
def eqU (x : V) (u : Value) : Bool := match u with
  | .none => eqV .non x
  | .bool b => eqV (.bl b) x
  | .int i _ => eqV (.int i) x
  | .str z _ => eqV (.str z) x
  | _ => false
theorem eqU_of {x y : V} {u : Value} (r : RelV y u) (f : flatV y = true) : eqU x u = eqV y x := by
  cases y with
  | non => cases r; rfl
  | bl b => cases r; rfl
  | int i => obtain ⟨t, rfl⟩ := r; rfl
  | str z => obtain ⟨t, rfl⟩ := r; rfl
  | _ => exact absurd (show false = true from f) Bool.false_ne_true
theorem any_eqU {x : V} : ∀ {xs : List V} {us : List Value}, Vals xs us → xs.all flatV = true → us.any (eqU x) = xs.any fun y => eqV y x
  | _, _, .nil, _ => rfl
  | y :: xs, u :: us, .cons r t, f => by
    rw [List.all_cons, Bool.and_eq_true] at f
    rw [List.any_cons, List.any_cons, eqU_of r f.1, any_eqU t f.2]
theorem mem_eqAt {A : Around} {s : Shared} {x : V} {v : Value} (rx : RelV x v) (fx : flatV x = true) : ∀ {xs : List V} {us : List Value}, Vals xs us → xs.all flatV = true → ∀ u ∈ us, SeqAt.EqAt A s u v (eqU x u)
  | _, _, .nil, _ => fun u hu => by cases hu
  | y :: xs, u :: us, .cons r t, f => fun u' hu => by
    rw [List.all_cons, Bool.and_eq_true] at f
    rcases List.mem_cons.mp hu with rfl | hu
    · rw [eqU_of r f.1]; exact eqAt_V r rx f.1 fx
    · exact mem_eqAt rx fx t f.2 u' hu
def inV (x : V) (xs : List V) : Bool := xs.any fun y => eqV y x
/-- x in a list or tuple of flat items -/
def rIn (K : PySem.W.Frag) (neg : Bool) : R2 := fun x y H Q => ∃ p xs, y = .ref p ∧ (SqL K H p xs ∨ SqT K H p xs) ∧ flatV x = true ∧ xs.all flatV = true ∧ Q (.bl (if neg then !inV x xs else inV x xs)) H
theorem op_in_seq : OpR X (compareOp .In) (rIn X.K false) := by
  intro pins s σ H x y v u Q I rx ry h
  obtain ⟨p, xs, rfl, hq, fx, fs, q⟩ := h
  cases ry
  rcases hq with hq | hq
  · obtain ⟨its, r, pl, hz⟩ := I.list hq
    refine SeqAt.in_listAt (eqU x) pl.isList (fun w hw => mem_eqAt rx fx r fs w (by simpa using hw)) ⟨.bl _, H, I, rfl, ?_⟩
    rw [show its.toArray.any (eqU x) = its.any (eqU x) by simp, any_eqU r fs]
    exact q
  · obtain ⟨its, r, pl, hz⟩ := I.tuple hq
    refine SeqAt.in_tupleAt (eqU x) pl (fun w hw => mem_eqAt rx fx r fs w (by simpa using hw)) ⟨.bl _, H, I, rfl, ?_⟩
    rw [show its.toArray.any (eqU x) = its.any (eqU x) by simp, any_eqU r fs]
    exact q
theorem op_notIn_seq : OpR X (compareOp .NotIn) (rIn X.K true) := by
  intro pins s σ H x y v u Q I rx ry h
  obtain ⟨p, xs, rfl, hq, fx, fs, q⟩ := h
  cases ry
  rcases hq with hq | hq
  · obtain ⟨its, r, pl, hz⟩ := I.list hq
    refine SeqAt.notIn_listAt (eqU x) pl.isList (fun w hw => mem_eqAt rx fx r fs w (by simpa using hw)) ⟨.bl _, H, I, rfl, ?_⟩
    rw [show its.toArray.any (eqU x) = its.any (eqU x) by simp, any_eqU r fs]
    exact q
  · obtain ⟨its, r, pl, hz⟩ := I.tuple hq
    refine SeqAt.notIn_tupleAt (eqU x) pl (fun w hw => mem_eqAt rx fx r fs w (by simpa using hw)) ⟨.bl _, H, I, rfl, ?_⟩
    rw [show its.toArray.any (eqU x) = its.any (eqU x) by simp, any_eqU r fs]
    exact q
theorem op_notIn_str : OpR X (compareOp .NotIn) (fun x y H Q => ∃ i j, x = .str i ∧ y = .str j ∧ Q (.bl (!(!(Builtin.Str.occurrences j i 0 j.length 1).isEmpty))) H) := by
  intro pins s σ H x y v u Q I rx ry h
  obtain ⟨i, j, rfl, rfl, q⟩ := h
  obtain ⟨t, rfl⟩ := rx
  obtain ⟨t', rfl⟩ := ry
  exact notIn_str ⟨.bl _, H, I, rfl, q⟩

/-! ### len, list(x), tuple(x) of any list or tuple that is read -/
theorem call_len_seq : CallR X (.builtin "len") (fun xs H Q => ∃ p ys, xs = [.ref p] ∧ (SqL X.K H p ys ∨ SqT X.K H p ys) ∧ Q (.int ys.length) H) := by
  intro pins s σ H xs us Q I r h
  obtain ⟨p, ys, rfl, hq, q⟩ := h
  obtain ⟨u, rfl, rx⟩ := vals1 r
  cases rx
  have hn := line63
  rcases hq with hq | hq
  · obtain ⟨its, r', pl, hz⟩ := I.list hq
    have hlen := r'.length
    exact Calls.call_len_list pl.isList (by simp only [List.size_toArray] <;> omega) ⟨.int ys.length, H, I.tok _, ⟨s.toks + 1, by rw [List.size_toArray, hlen]⟩, q⟩
  · obtain ⟨its, r', pl, hz⟩ := I.tuple hq
    have hlen := r'.length
    exact len_tuple pl (by simp only [List.size_toArray] <;> omega) ⟨.int ys.length, H, I.tok _, ⟨s.toks + 1, by rw [List.size_toArray, hlen]⟩, q⟩
theorem call_len_str : CallR X (.builtin "len") (fun xs H Q => ∃ z, xs = [.str z] ∧ z.length ≤ sizeLine ∧ Q (.int z.length) H) := by
  intro pins s σ H xs us Q I r h
  obtain ⟨z, rfl, hz, q⟩ := h
  obtain ⟨u, rfl, t, rfl⟩ := vals1 r
  have hn := line63
  exact len_str (by omega) ⟨.int z.length, H, I.tok _, ⟨_, rfl⟩, q⟩
theorem CallR.or {f : Value} {r r' : List V → Hp → VK → Prop} (h : CallR X f r) (h' : CallR X f r') : CallR X f (fun xs H Q => r xs H Q ∨ r' xs H Q) := by
  intro pins s σ H xs us Q I rs q
  rcases q with q | q
  · exact h pins s σ H xs us Q I rs q
  · exact h' pins s σ H xs us Q I rs q
theorem call_list_of : CallR X (.type "list") (fun xs H Q => ∃ p ys, xs = [.ref p] ∧ (SqL X.K H p ys ∨ SqT X.K H p ys) ∧ ∀ l, H l = none → Q (.ref l) (upd H l (.lst ys))) := by
  intro pins s σ H xs us Q I r h
  obtain ⟨p, ys, rfl, hq, q⟩ := h
  obtain ⟨u, rfl, rx⟩ := vals1 r
  cases rx
  have fin : ∀ (its : List Value), Vals ys its → ys.length ≤ sizeLine → ∀ (h' : Heap) (c' : Nat), (∀ b o', s.heap.get? b = some o' → h'.get? b = some o') →
      h'.get? s.heap.objs.size = some { cls := .type "list", dict := none, data := .seq its.toArray c', slots := #[] } → EP X pins σ Q (.ref s.heap.objs.size) { s with heap := h' } := fun its r' hz h' c' kp e =>
    ⟨.ref s.heap.objs.size, _, I.laid (t' := s.toks) kp (Nat.le_refl _) (show ObjOk X.prog X.w _ h' _ (.lst ys) from ⟨hz, its, c', r', e⟩), rfl, q _ (I.hok.fresh (Nat.le_refl _))⟩
  rcases hq with hq | hq
  · obtain ⟨its, r', pl, hz⟩ := I.list hq
    have hlen := r'.length
    obtain ⟨o, ho, hc, n, hd⟩ := pl.isList
    exact call_list_seq p (.inl rfl) ho hc hd (fun h' c' kp e => fin its r' hz h' c' kp e) (by simp only [List.size_toArray] <;> omega)
  · obtain ⟨its, r', pl, hz⟩ := I.tuple hq
    have hlen := r'.length
    obtain ⟨o, ho, hc, n, hd⟩ := pl
    exact call_list_seq p (.inr rfl) ho hc hd (fun h' c' kp e => fin its r' hz h' c' kp e) (by simp only [List.size_toArray] <;> omega)
theorem call_tuple_of : CallR X (.type "tuple") (fun xs H Q => ∃ p ys, xs = [.ref p] ∧ ((SqL X.K H p ys ∧ ∀ l, H l = none → Q (.ref l) (upd H l (.tup ys))) ∨ (SqT X.K H p ys ∧ Q (.ref p) H))) := by
  intro pins s σ H xs us Q I r h
  obtain ⟨p, ys, rfl, h⟩ := h
  obtain ⟨u, rfl, rx⟩ := vals1 r
  cases rx
  rcases h with ⟨hq, q⟩ | ⟨hq, q⟩
  · obtain ⟨its, r', pl, hz⟩ := I.list hq
    have hlen := r'.length
    refine call_tuple_list pl.isList (fun h' kp => ?_) (by simp only [List.size_toArray] <;> omega)
    have I1 : Inv X pins σ H { s with heap := h' } := I.kept (t' := s.toks) kp
    have I2 : Inv X pins σ (upd H h'.objs.size (.tup ys)) { s with heap := h'.push { cls := .type "tuple", data := .seq its.toArray } } :=
      I1.laid (t' := s.toks) (fun b o e => Heap.get?_push_of_some _ e) (Nat.le_refl _) (show ObjOk X.prog X.w _ _ _ (.tup ys) from ⟨hz, its, r', IsTup.new _ _⟩)
    exact ⟨.ref h'.objs.size, _, I2, rfl, q _ (I1.hok.fresh (Nat.le_refl _))⟩
  · obtain ⟨its, r', pl, hz⟩ := I.tuple hq
    exact call_tuple_same pl ⟨.ref p, H, I, rfl, q⟩

/-! ### the call of a builtin's method: o.m(..) -/
/-- the value is of that builtin type -/
def tyV (K : PySem.W.Frag) (T : String) (x : V) (H : Hp) : Prop := match x with
  | .str _ => T = "str"
  | .int _ => T = "int"
  | .ref p => (T = "list" ∧ ∃ xs, SqL K H p xs) ∨ (T = "tuple" ∧ ∃ o, K.lookup p = some o ∧ o.cls = .type "tuple" ∧ o.dict = none) ∨
      (T = "dict" ∧ ((∃ kvs, H p = some (.dK kvs)) ∨ ∃ kvs, H p = some (.dT kvs))) ∨ (T = "set" ∧ ∃ S n, H p = some (.set S n))
  | _ => False
theorem tyV_is {pins : List (Addr × Obj)} {σ : St} {H : Hp} {s : Shared} {T : String} {x : V} {v : Value} (I : Inv X pins σ H s) (r : RelV x v) (ty : tyV X.K T x H) :
    s.TypeIs v T ∧ ∀ a, v = .ref a → ∃ ob, s.heap.get? a = some ob ∧ ob.dict = none := by
  cases x with
  | str z =>
    obtain ⟨t, rfl⟩ := r
    cases (show T = "str" from ty)
    exact ⟨typeIs_str s z t, fun _ e => nomatch e⟩
  | int i =>
    obtain ⟨t, rfl⟩ := r
    cases (show T = "int" from ty)
    exact ⟨typeIs_int s i t, fun _ e => nomatch e⟩
  | ref p =>
    cases r
    rcases ty with ⟨rfl, xs, hq⟩ | ⟨rfl, o, hk, hc, hd⟩ | ⟨rfl, hk⟩ | ⟨rfl, S, n, hk⟩
    · obtain ⟨its, _, pl, _⟩ := I.list hq
      refine ⟨pl.isList.typeIs, fun a e => ?_⟩
      cases e
      obtain ⟨o, n, e, c, hd, _⟩ := pl
      exact ⟨o, e, hd⟩
    · refine ⟨⟨o, I.kIn p o hk, hc⟩, fun a e => ?_⟩
      cases e
      exact ⟨o, I.kIn _ o hk, hd⟩
    · have z : ∃ o, s.heap.get? p = some o ∧ o.ExactDict := by
        rcases hk with ⟨kvs, hk⟩ | ⟨kvs, hk⟩
        · obtain ⟨_, _, _, _, o, _, _, e, ex, _⟩ := I.hok p _ hk
          exact ⟨o, e, ex⟩
        · obtain ⟨_, _, _, _, o, _, _, e, ex, _⟩ := I.hok p _ hk
          exact ⟨o, e, ex⟩
      obtain ⟨o, e, ex⟩ := z
      refine ⟨⟨o, e, ex.1⟩, fun a e2 => ?_⟩
      cases e2
      exact ⟨o, e, ex.2.1⟩
    · obtain ⟨o, _, _, _, e, ex, _⟩ := I.hok p _ hk
      refine ⟨⟨o, e, ex.1⟩, fun a e2 => ?_⟩
      cases e2
      exact ⟨o, e, ex.2.1⟩
  | _ => exact False.elim ty
def tBM0 (K : PySem.W.Frag) (T : String) (r : V → List V → Hp → VK → Prop) (to : TE) : TE := fun σ H Q => to σ H fun x H1 => tyV K T x H1 ∧ r x [] H1 Q
def tBM (K : PySem.W.Frag) (T : String) (r : V → List V → Hp → VK → Prop) (to : TE) (t : TA) : TE := fun σ H Q => to σ H fun x H1 => tyV K T x H1 ∧ t σ H1 fun xs H2 => r x xs H2 Q
variable {o e : Expr} {es : List Expr} {to : TE} {t : TA} {name : Str} {apos cpos : Pos} {T id : String} {r : V → List V → Hp → VK → Prop}
theorem pe_bm0 (pa : PlainAttrs T) (slot : Slot T name id) (hty : typeOf (.builtin id) = pure (.type "method_descriptor")) (hm : MtR X id r) (ho : PE X o to)
    (hbase : attributeBase o name X.env (eval o X.env) = eval o X.env := by rfl) (hline : (apos.endLine == cpos.line) = true := by rfl) : PE X (.Call (.Attribute o name apos) [] [] cpos) (tBM0 X.K T r to) := by
  intro pins s σ H Q I h
  refine wpAny_Call_method0_late hbase hline (thn (ho pins s σ H _ I h) fun v s1 ⟨x, H1, I1, r1, ty, q1⟩ => ?_)
  obtain ⟨h1, h2⟩ := tyV_is I1 r1 ty
  exact ⟨T, id, pa, slot, hty, h1, h2, Calls.callWith_builtin rfl (PySem.evalArgs_none (hm pins s1 σ H1 x [] v [] Q I1 r1 .nil q1))⟩
theorem pe_bm (pa : PlainAttrs T) (slot : Slot T name id) (hty : typeOf (.builtin id) = pure (.type "method_descriptor")) (hm : MtR X id r) (ho : PE X o to) (ha : PA X (e :: es) t)
    (hbase : attributeBase o name X.env (eval o X.env) = eval o X.env := by rfl)
    (hfew : ((backTo cpos (starEach (e :: es) X.env)).all (fun x => !x.1) && (backToKw cpos (keywordEach [] X.env)).all (fun x => x.1.isSome)
      && decide ((e :: es).length + ([] : List Keyword).length + (if ([] : List Keyword).isEmpty then 0 else 1) < 30)) = true := by rfl)
    (hline : (apos.endLine == cpos.line) = true := by rfl) (hs : starEach (e :: es) X.env = (false, eval e X.env) :: starEach es X.env := by rfl) (hplain : (backTo cpos (starEach es X.env)).any (·.1) = false := by rfl) :
    PE X (.Call (.Attribute o name apos) (e :: es) [] cpos) (tBM X.K T r to t) := by
  intro pins s σ H Q I h
  refine wpAny_Call_method_late hbase hfew hline rfl (thn (ho pins s σ H _ I h) fun v s1 ⟨x, H1, I1, r1, ty, q1⟩ => ?_)
  obtain ⟨h1, h2⟩ := tyV_is I1 r1 ty
  refine ⟨T, id, pa, slot, hty, h1, h2, ?_⟩
  have hA := ha cpos pins s1 σ H1 _ I1 q1
  rw [hs] at hA ⊢
  refine Calls.callWith_builtin (by show (false || (backTo cpos (starEach es X.env)).any (·.1)) = false; rw [hplain] <;> rfl) (Calls.evalArgs_plain ?_)
  exact thn hA fun us s2 ⟨vs, H2, I2, r2, q2⟩ => hm pins s2 σ H2 x vs v us Q I2 r1 r2 q2
/- xs.append(e), list.index on a module's tuple .. are MtR facts of 06m -/
end
end L2

namespace L2
open PySem PySem.Spec PyProof.Rows

def MtM (X : Cx) (id : String) (r : V → List V → Hp → VK → Prop) : Prop :=
  ∀ (pins : List (Addr × Obj)) (s : Shared) (σ : St) (H : Hp) (x : V) (xs : List V) (v : Value) (us : List Value) (Q : VK), Inv X pins σ H s → RelV x v → Vals xs us → r x xs H Q →
    wpAny (model X.prog X.w) X.A (call (.builtin id) (v :: us)) (EP X pins σ Q) X.xe s

/-! ### lists of values -/
theorem Vals.one : ∀ {x : V} {us : List Value}, Vals [x] us → ∃ u, us = [u] ∧ RelV x u
  | _, _, .cons r .nil => ⟨_, rfl, r⟩
theorem Vals.two : ∀ {x y : V} {us : List Value}, Vals [x, y] us → ∃ u v, us = [u, v] ∧ RelV x u ∧ RelV y v
  | _, _, _, .cons r (.cons q .nil) => ⟨_, _, rfl, r, q⟩
theorem Vals.zero : ∀ {us : List Value}, Vals [] us → us = []
  | _, .nil => rfl
theorem Vals.dropLast {xs : List V} {us : List Value} (h : Vals xs us) : Vals xs.dropLast us.dropLast := by
  induction h with
  | nil => exact .nil
  | cons r t ih =>
    cases t with
    | nil => exact .nil
    | cons q t' => exact .cons r ih
theorem Vals.eraseIdx : ∀ {xs : List V} {us : List Value} (i : Nat), Vals xs us → Vals (xs.eraseIdx i) (us.eraseIdx i)
  | _, _, _, .nil => .nil
  | _, _, 0, .cons _ t => t
  | _, _, i + 1, .cons r t => .cons r (Vals.eraseIdx i t)
theorem Vals.reverse {xs : List V} {us : List Value} (h : Vals xs us) : Vals xs.reverse us.reverse := by
  induction h with
  | nil => exact .nil
  | cons r t ih => rw [List.reverse_cons, List.reverse_cons]; exact Vals.append ih (.cons r .nil)
theorem Vals.rep {xs : List V} {us : List Value} (h : Vals xs us) : ∀ k : Nat, Vals (List.replicate k xs).flatten (List.replicate k us).flatten
  | 0 => .nil
  | k + 1 => by
    rw [List.replicate_succ, List.replicate_succ, List.flatten_cons, List.flatten_cons]
    exact Vals.append h (Vals.rep h k)
theorem erase_last {α : Type} (l : List α) : l.eraseIdx (l.length - 1) = l.dropLast := by
  induction l with
  | nil => rfl
  | cons a r ih =>
    cases r with
    | nil => rfl
    | cons b r =>
      have e : (a :: b :: r).length - 1 = ((b :: r).length - 1) + 1 := by
        have h1 : (a :: b :: r).length = r.length + 2 := rfl
        have h2 : (b :: r).length = r.length + 1 := rfl
        omega
      rw [e, List.eraseIdx_cons_succ, ih]
      all_goals rfl
theorem len_erase {α : Type} : ∀ (l : List α) (i : Nat), (l.eraseIdx i).length ≤ l.length
  | [], _ => Nat.le_refl _
  | _ :: _, 0 => Nat.le_succ _
  | _ :: r, i + 1 => Nat.succ_le_succ (len_erase r i)
theorem foldl_rep (its : List Value) : ∀ (k : Nat) (acc : List Value),
    List.foldl (fun x1 x2 => x1 ++ x2) acc.toArray (List.replicate k its.toArray) = (acc ++ (List.replicate k its).flatten).toArray
  | 0, acc => by simp
  | k + 1, acc => by
    have e : acc.toArray ++ its.toArray = (acc ++ its).toArray := by simp
    have e2 : (acc ++ its) ++ (List.replicate k its).flatten = acc ++ (List.replicate (k + 1) its).flatten := by
      rw [List.replicate_succ, List.flatten_cons, List.append_assoc]
    rw [← e2, ← foldl_rep its k (acc ++ its), ← e, List.replicate_succ, List.foldl_cons]

section
variable {X : Cx} {pins : List (Addr × Obj)} {σ : St} {H : Hp} {s : Shared} {l b : Addr} {xs ys zs : List V}

/-! ### the two steps: a tracked list is rewritten, a new list is laid -/
theorem Inv.lset {its its' : List Value} {n : Nat} {f : Array Value → Array Value} {t' : Nat} (I : Inv X pins σ H s) (hH : H l = some (.lst xs))
    (e : s.heap.get? l = some { cls := .type "list", data := .seq its.toArray n }) (hf : f its.toArray = its'.toArray) (hv : Vals ys its') (hz : ys.length ≤ sizeLine) :
    Inv X pins σ (upd H l (.lst ys)) { s with heap := s.heap.update l (Obj.mapSeq f), toks := t' } := by
  have q := PySem.IsL.update e f
  rw [hf] at q
  refine I.write (x := l) (e := l) (by rw [hH]; exact trivial) (.inl rfl) (fun b' u hb hu => (Heap.get?_update_other s.heap (Obj.mapSeq f) (Ne.symm hb)).trans hu) ⟨_, q⟩ ?_
  exact ⟨hz, its', _, hv, q⟩
theorem Inv.lnew {its : List Value} {t' : Nat} (I : Inv X pins σ H s) (hv : Vals ys its) (hz : ys.length ≤ sizeLine) :
    Inv X pins σ (upd H s.heap.objs.size (.lst ys)) { s with heap := s.heap.push { cls := .type "list", data := .seq its.toArray }, toks := t' } :=
  I.laid (fun _ _ q => Heap.get?_push_of_some _ q) (Nat.le_refl _) ⟨hz, its, 0, hv, Heap.get?_push_size _ rfl⟩
theorem Inv.fresh (I : Inv X pins σ H s) : H s.heap.objs.size = none := I.hok.fresh (Nat.le_refl _)
theorem Inv.lstM (I : Inv X pins σ H s) (hH : H l = some (.lst xs)) : xs.length ≤ sizeLine ∧ ∃ (its : List Value) (n : Nat), Vals xs its ∧ xs.length = its.length ∧ s.heap.get? l = some { cls := .type "list", data := .seq its.toArray n } := by
  obtain ⟨z, its, n, r, e⟩ := I.hok l _ hH
  exact ⟨z, its, n, r, r.length, e⟩

theorem notLongL {n : Nat} (h : n ≤ sizeLine) : Builtin.List.listTooLong n = false := by
  unfold Builtin.List.listTooLong
  exact decide_eq_false (by omega)
end

section
variable {X : Cx}

/-! ### methods -/
def rAppend : V → List V → Hp → VK → Prop := fun x vs H Q => ∃ l xs y, x = .ref l ∧ vs = [y] ∧ H l = some (.lst xs) ∧ xs.length < sizeLine ∧ Q .non (upd H l (.lst (xs ++ [y])))
theorem mt_append : MtM X "list.append" rAppend := by
  intro pins s σ H x vs v us Q I rx rv h
  obtain ⟨l, xs, y, rfl, rfl, hH, hz, q⟩ := h
  cases rx
  obtain ⟨u, rfl, ru⟩ := rv.one
  obtain ⟨z, its, n, r, hl, e⟩ := I.lstM hH
  refine call_meets F.slot_list_append ⟨_, e, rfl⟩ F.entry_list_append (F.args_list_append_2 _ _) (PySem.list_append l its.toArray n u (by rw [List.size_toArray]; omega)) ⟨e, ?_⟩
  refine ⟨.non, _, I.lset (its' := its ++ [u]) hH e (by simp) (r.append (.cons ru .nil)) ?_, rfl, q⟩
  rw [List.length_append, List.length_singleton]
  omega

def rExtend : V → List V → Hp → VK → Prop := fun x vs H Q => ∃ l b xs zs, x = .ref l ∧ vs = [.ref b] ∧ H l = some (.lst xs) ∧ H b = some (.lst zs) ∧ xs.length + zs.length ≤ sizeLine ∧ Q .non (upd H l (.lst (xs ++ zs)))
theorem mt_extend : MtM X "list.extend" rExtend := by
  intro pins s σ H x vs v us Q I rx rv h
  obtain ⟨l, b, xs, zs, rfl, rfl, hH, hB, hz, q⟩ := h
  cases rx
  obtain ⟨u, rfl, ru⟩ := rv.one
  cases ru
  obtain ⟨z, its, n, r, hl, e⟩ := I.lstM hH
  obtain ⟨z2, its2, n2, r2, hl2, e2⟩ := I.lstM hB
  have hsz : its.toArray.size + its2.toArray.size ≤ sizeLine := by rw [List.size_toArray, List.size_toArray]; omega
  have hlong : ¬ (!its.toArray.isEmpty && Builtin.List.listTooLong (its.toArray.size + its2.toArray.size)) = true := by
    rw [notLongL hsz, Bool.and_false]
    exact Bool.false_ne_true
  refine call_meets F.slot_list_extend ⟨_, e, rfl⟩ F.entry_list_extend (F.args_list_extend_2 _ _)
    (AutoSeq1.list_extend_list_list_0 l its.toArray n b its2.toArray n2 hlong (by rw [List.size_toArray]; omega) (by omega)) ⟨e, e2, ?_⟩
  refine ⟨.non, _, I.lset (its' := its ++ its2) hH e (by simp) (r.append r2) ?_, rfl, q⟩
  rw [List.length_append]
  omega

def rPop : V → List V → Hp → VK → Prop := fun x vs H Q => ∃ l xs y, x = .ref l ∧ vs = [] ∧ H l = some (.lst xs) ∧ xs[xs.length - 1]? = some y ∧ Q y (upd H l (.lst xs.dropLast))
theorem mt_pop : MtM X "list.pop" rPop := by
  intro pins s σ H x vs v us Q I rx rv h
  obtain ⟨l, xs, y, rfl, rfl, hH, hy, q⟩ := h
  cases rx
  have hus := rv.zero
  subst hus
  obtain ⟨z, its, n, r, hl, e⟩ := I.lstM hH
  obtain ⟨u, hu, ru⟩ := r.get hy
  have hy' : its.toArray[its.toArray.size - 1]? = some u := by
    show its.toArray[its.length - 1]? = some u
    rw [← Array.getElem?_toList, ← hl]
    exact hu
  refine call_meets F.slot_list_pop ⟨_, e, rfl⟩ F.entry_list_pop (F.args_list_pop_1 _) (MeetsSeq.list_pop_last l its.toArray n u hy' (by rw [List.size_toArray]; omega)) ⟨e, ?_⟩
  refine ⟨y, _, I.lset (its' := its.dropLast) hH e ?_ r.dropLast ?_, ru, q⟩
  · show its.toArray.eraseIdxIfInBounds (its.toArray.size - 1) = its.dropLast.toArray
    rw [List.size_toArray, List.eraseIdxIfInBounds_toArray, erase_last]
  · rw [List.length_dropLast]
    omega

def rPopAt : V → List V → Hp → VK → Prop := fun x vs H Q => ∃ l xs i k y, x = .ref l ∧ vs = [.int i] ∧ H l = some (.lst xs) ∧ -(2 ^ 63) ≤ i ∧ i < 2 ^ 63 ∧ seqIndex? i xs.length = some k ∧ xs[k]? = some y ∧ Q y (upd H l (.lst (xs.eraseIdx k)))
theorem mt_popAt : MtM X "list.pop" rPopAt := by
  intro pins s σ H x vs v us Q I rx rv h
  obtain ⟨l, xs, i, k, y, rfl, rfl, hH, h1, h2, hk, hy, q⟩ := h
  cases rx
  obtain ⟨u, rfl, ru⟩ := rv.one
  obtain ⟨t, rfl⟩ := ru
  obtain ⟨z, its, n, r, hl, e⟩ := I.lstM hH
  obtain ⟨w, hw, rw'⟩ := r.get hy
  refine call_meets F.slot_list_pop ⟨_, e, rfl⟩ F.entry_list_pop (F.args_list_pop_2 _ _)
    (MeetsSeq.list_pop_at l its.toArray n i t k w (fitsIndex_both h1 h2) (by rw [List.size_toArray, ← hl]; exact hk) (by rw [← Array.getElem?_toList]; exact hw) (by rw [List.size_toArray]; omega)) ⟨e, ?_⟩
  refine ⟨y, _, I.lset (its' := its.eraseIdx k) hH e ?_ (r.eraseIdx k) ?_, rw', q⟩
  · show its.toArray.eraseIdxIfInBounds k = (its.eraseIdx k).toArray
    rw [List.eraseIdxIfInBounds_toArray]
  · have := len_erase xs k
    omega

def rReverse : V → List V → Hp → VK → Prop := fun x vs H Q => ∃ l xs, x = .ref l ∧ vs = [] ∧ H l = some (.lst xs) ∧ Q .non (upd H l (.lst xs.reverse))
theorem mt_reverse : MtM X "list.reverse" rReverse := by
  intro pins s σ H x vs v us Q I rx rv h
  obtain ⟨l, xs, rfl, rfl, hH, q⟩ := h
  cases rx
  have hus := rv.zero
  subst hus
  obtain ⟨z, its, n, r, hl, e⟩ := I.lstM hH
  refine call_meets F.slot_list_reverse ⟨_, e, rfl⟩ F.entry_list_reverse (F.args_list_reverse_1 _) (AutoSeq1.list_reverse_list_0 l its.toArray n (by rw [List.size_toArray]; omega)) ⟨e, ?_⟩
  refine ⟨.non, _, I.lset (its' := its.reverse) hH e (by simp) r.reverse ?_, rfl, q⟩
  rw [List.length_reverse]
  omega

def rClear : V → List V → Hp → VK → Prop := fun x vs H Q => ∃ l xs, x = .ref l ∧ vs = [] ∧ H l = some (.lst xs) ∧ Q .non (upd H l (.lst []))
theorem mt_clear : MtM X "list.clear" rClear := by
  intro pins s σ H x vs v us Q I rx rv h
  obtain ⟨l, xs, rfl, rfl, hH, q⟩ := h
  cases rx
  have hus := rv.zero
  subst hus
  obtain ⟨z, its, n, r, hl, e⟩ := I.lstM hH
  refine call_meets F.slot_list_clear ⟨_, e, rfl⟩ F.entry_list_clear (F.args_list_clear_1 _) (AutoSeq1.list_clear_list_0 l its.toArray n (by rw [List.size_toArray]; omega)) ⟨e, ?_⟩
  exact ⟨.non, _, I.lset (its' := []) (ys := []) hH e rfl .nil (Nat.zero_le _), rfl, q⟩

/-! ### list + list, list += list, list * int -/
def rCat : R2 := fun x y H Q => ∃ l b xs zs, x = .ref l ∧ y = .ref b ∧ H l = some (.lst xs) ∧ H b = some (.lst zs) ∧ xs.length + zs.length ≤ sizeLine ∧ ∀ p, H p = none → Q (.ref p) (upd H p (.lst (xs ++ zs)))
theorem op_cat : OpR X (binaryOp .Add) rCat := by
  intro pins s σ H x y v u Q I rx ry h
  obtain ⟨l, b, xs, zs, rfl, rfl, hH, hB, hz, q⟩ := h
  cases rx
  cases ry
  obtain ⟨z, its, n, r, hl, e⟩ := I.lstM hH
  obtain ⟨z2, its2, n2, r2, hl2, e2⟩ := I.lstM hB
  refine PySem.P.add_list e e2 ?_ (by rw [List.size_toArray, List.size_toArray]; omega)
  have ea : its.toArray ++ its2.toArray = (its ++ its2).toArray := by simp
  rw [ea]
  exact ⟨.ref _, _, I.lnew (t' := s.toks) (r.append r2) (by rw [List.length_append]; omega), rfl, q _ I.fresh⟩
/-- a list times an int (a negative one is nothing) -/
def rRep : R2 := fun x y H Q => ∃ l k xs, x = .ref l ∧ y = .int k ∧ H l = some (.lst xs) ∧ -(2 ^ 63) ≤ k ∧ k < 2 ^ 63 ∧ xs.length * k.toNat ≤ sizeLine ∧
  ∀ p, H p = none → Q (.ref p) (upd H p (.lst (List.replicate k.toNat xs).flatten))
theorem len_rep {α : Type} (xs : List α) (k : Nat) : (List.replicate k xs).flatten.length = k * xs.length := by
  induction k with
  | zero => simp
  | succ k ih => rw [List.replicate_succ, List.flatten_cons, List.length_append, ih, Nat.succ_mul, Nat.add_comm]
theorem op_rep : OpR X (binaryOp .Mult) rRep := by
  intro pins s σ H x y v u Q I rx ry h
  obtain ⟨l, k, xs, rfl, rfl, hH, h1, h2, hz, q⟩ := h
  cases rx
  obtain ⟨t, rfl⟩ := ry
  obtain ⟨z, its, n, r, hl, e⟩ := I.lstM hH
  have hlen : its.toArray.size * k.toNat ≤ sizeLine := by rw [List.size_toArray, ← hl]; exact hz
  have hcap : ¬ its.toArray.size * k.toNat > (2 ^ 63 - 1) / 8 := by
    have : (sizeLine : Nat) ≤ (2 ^ 63 - 1) / 8 := by decide
    omega
  have hfit : ¬ (!Builtin.List.listFitsIndex k) = true := by
    rw [fitsIndex_both h1 h2]
    exact Bool.false_ne_true
  have hlong : ¬ Builtin.List.listTooLong (its.toArray.size * k.toNat) = true := by
    rw [notLongL hlen]
    exact Bool.false_ne_true
  have hnew : List.foldl (fun x1 x2 => x1 ++ x2) #[] (List.replicate (if its.toArray.isEmpty = true then 0 else k.toNat) its.toArray) = (List.replicate k.toNat its).flatten.toArray := by
    have f0 : ∀ m : Nat, List.foldl (fun x1 x2 => x1 ++ x2) #[] (List.replicate m its.toArray) = (List.replicate m its).flatten.toArray := fun m => by
      have := foldl_rep its m []
      rw [List.nil_append] at this
      exact this
    rw [f0]
    cases its with
    | nil => simp
    | cons a r' => rw [if_neg (by simp)]
  refine wpAny_binaryOp_repeat_ref (T := "list") (U := "int") (by decide) ⟨_, e, rfl⟩ (fun s' => typeIs_int s' k t) noFill_list_mul F.fills_int_mul F.slot_int_rmul repeat_list F.slot_int_index.lookup
    (call_meets F.slot_int_rmul (typeIs_int s k t) F.entry_int_rmul (F.args_int_rmul_2 _ _) (int___rmul___int_list k t l its.toArray n)
      ⟨e, rfl, ⟨_, e, rfl⟩, call_meets F.slot_list_mul ⟨_, e, rfl⟩ F.entry_list_mul (F.args_list_mul_2 _ _) (AutoListH.list___mul___list_int_3 l its.toArray n k t hfit hcap hlong) ⟨e, ?_⟩⟩)
  rw [hnew]
  exact ⟨.ref _, _, I.lnew (t' := s.toks) (r.rep k.toNat) (by rw [len_rep, Nat.mul_comm]; exact hz), rfl, q _ I.fresh⟩

/-! ### del xs[i] -/
theorem del_list {pins : List (Addr × Obj)} {s : Shared} {σ : St} {H : Hp} {l : Addr} {xs : List V} {i : Int} {t : Tok} {k : Nat} {Q : Unit → Shared → Prop} (I : Inv X pins σ H s) (hH : H l = some (.lst xs))
    (h1 : -(2 ^ 63) ≤ i) (h2 : i < 2 ^ 63) (hk : seqIndex? i xs.length = some k) (h : ∀ s', Inv X pins σ (upd H l (.lst (xs.eraseIdx k))) s' → Q () s') :
    wpAny (model X.prog X.w) X.A (delItem (.ref l) (.int i t)) Q X.xe s := by
  obtain ⟨z, its, n, r, hl, e⟩ := I.lstM hH
  refine PySem.P.delItem_list (k := k) e (fitsIndex_both h1 h2) (by rw [List.size_toArray, ← hl]; exact hk) (h _ ?_) (by rw [List.size_toArray]; omega)
  refine I.lset (its' := its.eraseIdx k) (t' := s.toks) hH e ?_ (r.eraseIdx k) ?_
  · show its.toArray.eraseIdxIfInBounds k = (its.eraseIdx k).toArray
    rw [List.eraseIdxIfInBounds_toArray]
  · have := len_erase xs k
    omega
end

/-! ### xs[a:b] = ys -/
section
variable {prog : Program} {w : World} {A : Around} {E : Value → Shared → Prop} {s : Shared}
theorem splice_eq (its its2 : List Value) (a c : Nat) : its.toArray.extract 0 a ++ its2.toArray ++ its.toArray.extract c its.toArray.size = (its.take a ++ its2 ++ its.drop c).toArray := by
  apply Array.toList_inj.mp
  first
    | (simp
       exact List.take_of_length_le (by simp))
    | simp [List.take_of_length_le]
    | simp
theorem bounds_run {a c n : Nat} (hac : a ≤ c) (hc : c ≤ n) : sliceBounds (some (a : Int)) (some (c : Int)) none n = ((a : Int), (c : Int), 1) := by
  simp only [sliceBounds, Option.getD_none]
  have h1 : ¬ ((a : Int) < 0) := by omega
  have h2 : ¬ ((c : Int) < 0) := by omega
  simp only [h1, h2, if_false, show (1 : Int) > 0 by decide, if_true]
  congr 1
  · omega
  · congr 1; omega
set_option maxRecDepth 100000 in
/-- list.__setitem__ with a slice of step one and another list -/
theorem setItem_slice {l b sl : Addr} {items new : Array Value} {n n2 : Nat} {vl vu : Value} {a c : Nat} {Q : Unit → Shared → Prop}
    (e : s.heap.get? l = some { cls := .type "list", data := .seq items n }) (e2 : s.heap.get? b = some { cls := .type "list", data := .seq new n2 }) (hne : l ≠ b)
    (hs : s.heap.IsSliceOf sl vl vu .none) (pl : IsPart vl (some (a : Int))) (pu : IsPart vu (some (c : Int))) (hac : a ≤ c) (hc : c ≤ items.size)
    (hsz : items.size + new.size ≤ sizeLine) (h : Q () { s with heap := s.heap.update l (Obj.mapSeq fun xs => xs.extract 0 a ++ new ++ xs.extract c xs.size) }) :
    wpAny (model prog w) A (setItem (.ref l) (.ref sl) (.ref b)) Q E s := by
  have hl : s.heap.IsList l items := PySem.IsL.isList e
  have hb : s.heap.IsList b new := PySem.IsL.isList e2
  obtain ⟨os, hos, hcs, hds⟩ := id hs
  have hTs : s.TypeIs (.ref sl) "slice" := ⟨os, hos, hcs⟩
  have hstep : ¬ ((rawPart none == rawInt 0) = true) := Bool.false_ne_true
  have hsame : Builtin.List.listSameRef (.ref l) (.ref b) = false := by
    unfold Builtin.List.listSameRef
    exact beq_eq_false_iff_ne.mpr hne
  have hmax : (max (a : Int) (c : Int)).toNat = c := by omega
  have hz' : ((fun xs : Array Value => xs.extract 0 a ++ new ++ xs.extract c xs.size) items).size ≤ sizeLine + 1 := by
    simp only [Array.size_append, Array.size_extract]
    omega
  unfold setItem
  try with_reducible refine wpAny_holding ?_
  first | refine wpAny_bind (wpAny_pure ?_) | skip
  refine wpAny_bind (wpAny_sequenceKey hl.typeIs (by decide) ?_)
  refine wpAny_bind (wpAny_callSpecial?_slot (name := Str.ofString "__setitem__") hl.typeIs slot_list_setitem
    (wpAny_call_entry slot_list_setitem hl.typeIs entry_list_setitem ?_ (args_list_setitem _ _ _)))
  show wpAny _ _ (Builtin.List.listSubscript? (.ref sl) >>= _) _ _ s
  refine wpAny_bind ?_
  unfold Builtin.List.listSubscript?
  refine wpAny_bind (wpAny_specialOf hTs slice_no_index ?_)
  simp only [Option.isNone_none, if_true]
  refine wpAny_pure ?_
  show wpAny _ _ (typeOf (.ref sl) >>= _) _ _ s
  refine wpAny_bind (wpAny_typeOf hTs ?_)
  first
    | rw [if_neg (by decide)]
    | refine PySem.W.KFB.if_not (by decide) ?_
  rw [listSliceParts_eq]
  refine wpAny_bind (wpAny_bind (wpAny_field hos hds (x := .none) rfl (wpAny_bind (wpAny_listPart .none ?_))))
  rw [if_neg hstep]
  refine wpAny_bind (wpAny_field hos hds (x := vl) rfl (wpAny_bind (wpAny_listPart pl ?_)))
  refine wpAny_bind (wpAny_field hos hds (x := vu) rfl (wpAny_bind (wpAny_listPart pu (wpAny_pure ?_))))
  first
    | simp only [hsame, Bool.false_eq_true, if_false]
    | refine PySem.W.KFB.if_not hsame ?_
    | (dsimp only
       rw [if_neg (by rw [hsame]; exact Bool.false_ne_true)])
  refine wpAny_bind (m := Builtin.List.listAllItems (.ref b) "must assign iterable to extended slice") ?_
  unfold Builtin.List.listAllItems
  refine wpAny_bind (wpAny_typeOf hb.typeIs ?_)
  first
    | refine PySem.W.KFB.if_so (by decide) ?_
    | rw [if_pos (by decide)]
    | simp only [beq_self_eq_true, Bool.true_or, if_true]
  unfold Builtin.List.listItems
  refine wpAny_bind (wpAny_seqItems e2 rfl (wpAny_pure ?_))
  refine wpAny_bind (wpAny_bind (wpAny_seqItems e rfl (wpAny_pure ?_)))
  refine wpAny_bind (wpAny_of_eq ((sliceIndices_raw (some (a : Int)) (some (c : Int)) none items.size (by simp)).trans (congrArg (pure : Int × Int × Int → Sem (Int × Int × Int)) (bounds_run hac hc))) ?_)
  show wpAny _ _ (if ((1 : Int) == 1) = true then _ else _) _ _ s
  rw [if_pos (by decide)]
  refine wpAny_bind (wpAny_rule ?_)
  first
    | simp only [notLongL hsz, Bool.false_eq_true, if_false]
    | refine PySem.W.KFB.if_not (notLongL hsz) ?_
  first | refine wpAny_bind (wpAny_pure ?_) | skip
  show wpAny _ _ (updateSeq l (fun xs => xs.extract 0 ((a : Int)).toNat ++ new ++ xs.extract (max (a : Int) (c : Int)).toNat xs.size) >>= _) _ _ s
  rw [hmax, Int.toNat_natCast]
  refine wpAny_bind (wpAny_updateSeq (hz := Nat.le_trans (Nat.le_add_right _ _) hsz) (_hz' := hz') e rfl ?_)
  refine wpAny_bind (wpAny_letGo ?_)
  first
    | exact wpAny_bind (wpAny_pure (wpAny_pure ⟨.none, rfl, wpAny_pure h⟩))
    | exact wpAny_pure ⟨.none, rfl, wpAny_pure h⟩
end

section
variable {X : Cx}
/-- xs[a:c] = ys of another list, at the value level: sl is the slice object that was just made -/
theorem set_slice {pins : List (Addr × Obj)} {s : Shared} {σ : St} {H : Hp} {l b sl : Addr} {xs ys : List V} {a c : Int} {vl vu : Value} {Q : Unit → Shared → Prop} (I : Inv X pins σ H s)
    (hH : H l = some (.lst xs)) (hB : H b = some (.lst ys)) (hne : l ≠ b) (hs : s.heap.IsSliceOf sl vl vu .none) (ra : RelV (.int a) vl) (rc : RelV (.int c) vu) (h0 : 0 ≤ a) (hac : a ≤ c) (hc : c ≤ xs.length)
    (hz : xs.length + ys.length ≤ sizeLine) (h : ∀ s', Inv X pins σ (upd H l (.lst (xs.take a.toNat ++ ys ++ xs.drop c.toNat))) s' → Q () s') :
    wpAny (model X.prog X.w) X.A (setItem (.ref l) (.ref sl) (.ref b)) Q X.xe s := by
  obtain ⟨ta, rfl⟩ := ra
  obtain ⟨tc, rfl⟩ := rc
  obtain ⟨z, its, n, r, hl, e⟩ := I.lstM hH
  obtain ⟨z2, its2, n2, r2, hl2, e2⟩ := I.lstM hB
  obtain ⟨a', rfl⟩ := Int.eq_ofNat_of_zero_le h0
  obtain ⟨c', rfl⟩ := Int.eq_ofNat_of_zero_le (Int.le_trans h0 hac)
  simp only [Int.toNat_natCast] at h
  refine setItem_slice (a := a') (c := c') e e2 hne hs (.int _ _) (.int _ _) (by omega) (by rw [List.size_toArray]; omega) (by rw [List.size_toArray, List.size_toArray]; omega) (h _ ?_)
  refine I.lset (its' := its.take a' ++ its2 ++ its.drop c') (t' := s.toks) hH e ?_ (Vals.append (Vals.append (r.take _) r2) (r.drop _)) ?_
  · exact splice_eq its its2 a' c'
  · rw [List.length_append, List.length_append, List.length_take, List.length_drop]
    omega
end
end L2

namespace Att
open PySem PySem.W PySem.Calls PyProof.Rows

/-! ### the script -/
theorem ints_of_wellAll {P : Params} {h : Heap} : ∀ (ns : List Int) (vs : List Value), WellAll P h vs (ns.map WData.int) → IntsAre vs ns := by
  intro ns
  induction ns with
  | nil =>
    intro vs w
    rw [List.map_nil] at w
    cases w
    exact .nil
  | cons n ns ih =>
    intro vs w
    rw [List.map_cons] at w
    cases w with
    | cons a b =>
      cases a
      exact .cons _ _ (ih _ b)

theorem script_of {l : OpenLaw} {n : Nat} (hn : l.most = some n) {P : Params} {h : Heap} {args : List WData} {vals : List Value}
    (hpre : l.row.toRowW.claim.pre args = true) (hwl : WellAll P h vals args) :
    ∃ a vs ns, vals = [Value.ref a] ∧ args = [WData.list (ns.map WData.int)] ∧ h.get? a = some { cls := .type "list", data := .seq vs.toArray } ∧ IntsAre vs ns ∧ ns.length ≤ n := by
  have hsh : WShape.hasAll [] args [.list .int] = true := (pre_splitW hpre).1
  have hc : l.pre.holds [] { args := args } = true := (pre_splitW hpre).2
  obtain ⟨d, r, rfl, h1, h2⟩ := hasAllW_cons hsh
  obtain rfl := hasAllW_nil h2
  obtain ⟨xs, rfl, h3⟩ := hasW_list h1
  obtain ⟨ns, rfl⟩ := items_int h3
  have hlen : ns.length ≤ n := by
    unfold OpenLaw.pre at hc
    have h4 : (WTm.not (.lt (.lit (.int (n : Int))) (.len (.arg 0)))).holds [] { args := [.list (ns.map .int)] } = true := by
      have h4 := (holds_andW hc).1
      rw [hn] at h4
      exact h4
    have h5 := condW_of h4 (w_not (w_lt w_lit (w_len_list (w_arg rfl))))
    rw [List.length_map] at h5
    refine Nat.le_of_not_lt fun q => ?_
    have q' : (n : Int) < ((ns.length : Nat) : Int) := by omega
    first
      | (rw [decide_eq_true q'] at h5; exact absurd h5 (by decide))
      | (simp at h5; omega)
  cases hwl with
  | cons w1 w2 =>
    cases w2
    cases w1 with
    | list ho hall => exact ⟨_, _, ns, rfl, rfl, ho, ints_of_wellAll ns _ hall, hlen⟩

theorem post_true (l : OpenLaw) (args : List WData) : l.row.toRowW.claim.post args (.bool true) args = true :=
  postW_of (r := l.row.toRowW) (X := (true == true))
    (show WShape.has [] (.bool true) .bool = true by first | rfl | decide | simp [WShape.has, WShape.arms, WShape.armsAll])
    (show (WTm.eq .res (.lit (.bool true))).value [] { args := args, res := some (.bool true), after := args } = some (.bool (true == true)) from w_eq_bool (w_res rfl) w_lit) rfl

/-! ### the attachment: holds_open's last premise (the goal 'hc' behind k_head) from a wpAny of the law's body -/
theorem attach {l : OpenLaw} {n : Nat} {q : Program} {loose : List Str} {XP : (Str → Option Value) → Heap → Prop} {YP : World → Heap → Prop} {d : DefRec} {x : Str}
    (hn : l.most = some n) (hdf : d.params.defaults = [])
    (hbind : ∀ pm cd doc v : Value, bindArgs (docDef d.name d.params d.body d.scope pm cd doc) ⟨[v], []⟩ = pure [(x, v)])
    (hx : d.scope.names.lookup x = some .local ∨ d.scope.names.lookup x = some .cell)
    (hk : d.scope.kind = .function) (hco : d.scope.isCoroutine = false) (hgen : d.scope.isGenerator = false)
    (body : ∀ (w : World) (s₀ s₁ s : Shared) (mg mb : Str → Option Value) (fa : Addr) (o : Obj) (pm cd doc : Value) (a : Addr) (vs : List Value) (ns : List Int),
      Ground q loose [] XP w s₀ mg mb s₁.heap → YP w s₁.heap →
      s₁.heap.get? fa = some o → o.data = .func (docDef d.name d.params d.body d.scope pm cd doc) → s₁.heap.CodeRec cd d.name → mg d.name = some (.ref fa) →
      s₁.heap.get? a = some { cls := .type "list", data := .seq vs.toArray } → IntsAre vs ns → ns.length ≤ n →
      s.gens = #[] → s.os = s₁.os →
      Fr s₁.heap s₁.heap.objs.size s.heap (bindL (envOfC d.name d.scope s₁.heap.objs.size fa cd).kindOf [(x, .ref a)] fun _ => none) →
      Cl s₁.heap.objs.size (cellsFrom (s₁.heap.objs.size + 1) d.scope.names []) s.heap (bindC (envOfC d.name d.scope s₁.heap.objs.size fa cd).kindOf [(x, .ref a)] fun _ => none) →
      wpAny (model l.prog w) (callerA.deeper (envOfC d.name d.scope s₁.heap.objs.size fa cd)) (execs d.body (envOfC d.name d.scope s₁.heap.objs.size fa cd))
        (fun f s' => f = .ret (.bool true) ∧ OldK s₁.heap s'.heap ∧ s'.os = s₁.os ∧ AllBare s'.gens) (fun _ _ => False) s) :
    WalkO q loose XP YP l.row.toRowW d [] (fun f vs => PySem.call f vs) := by
  intro w s₀ s₁ mg mb G Y fa o pm cd doc dV kV ho hd hcd hD hmg hg args vals as hpre hlay hrd hwl hlo
  obtain rfl : dV = .none := Dflts.none hD hdf
  obtain rfl : kV = .none := Dflts.noKw hD
  obtain ⟨a, vs, ns, rfl, rfl, hobj, hints, hlen⟩ := script_of hn hpre hwl
  refine enter_call ?_
  refine call_cells_ret (o := o) (by rw [depth_caller]; decide) ho (fd_plain hd) G.T.nolimit hcd (hbind pm cd doc (.ref a)) (fun y hy => ?_) (fun h₁ tk F X => ?_) hco hgen hk
  · obtain rfl : y = (x, Value.ref a) := List.mem_singleton.mp hy
    rcases hx with e | e
    · exact .inl e
    · exact .inr ⟨e, cellsFrom_some _ _ _ (.inl e)⟩
  · refine wpAny_mono (body w s₀ s₁ { s₁ with heap := h₁, toks := tk } mg mb fa o pm cd doc a vs ns G Y ho (fd_plain hd) hcd hmg hobj hints hlen hg rfl F X) (fun f s' hq => ?_) (fun _ _ hq => hq)
    obtain ⟨rfl, h2, h3, h4⟩ := hq
    exact ⟨.inl ⟨.bool true, .bool true, [], rfl, fun _ => rfl, .bool true, post_true l _, fun _ => ⟨List.Pairwise.nil, fun _ hm => (nomatch hm)⟩⟩, h2, h3, h4⟩

/-- the same from a codeAny of the CALL (for a layer whose function contracts speak of calls) -/
theorem attach_call {l : OpenLaw} {n : Nat} {q : Program} {loose : List Str} {XP : (Str → Option Value) → Heap → Prop} {YP : World → Heap → Prop} {d : DefRec}
    (hn : l.most = some n) (hdf : d.params.defaults = [])
    (call : ∀ (w : World) (s₀ s₁ : Shared) (mg mb : Str → Option Value) (fa : Addr) (o : Obj) (pm cd doc : Value) (a : Addr) (vs : List Value) (ns : List Int),
      Ground q loose [] XP w s₀ mg mb s₁.heap → YP w s₁.heap →
      s₁.heap.get? fa = some o → o.data = .func (docDef d.name d.params d.body d.scope pm cd doc) → s₁.heap.CodeRec cd d.name → mg d.name = some (.ref fa) →
      s₁.heap.get? a = some { cls := .type "list", data := .seq vs.toArray } → IntsAre vs ns → ns.length ≤ n → s₁.gens = #[] →
      codeAny (model l.prog w) callerA (.call (.ref fa) ⟨[.ref a], []⟩) (fun r s' => r = .ok (.ret (.bool true)) ∧ OldK s₁.heap s'.heap ∧ s'.os = s₁.os ∧ AllBare s'.gens) s₁) :
    WalkO q loose XP YP l.row.toRowW d [] (fun f vs => PySem.call f vs) := by
  intro w s₀ s₁ mg mb G Y fa o pm cd doc dV kV ho hd hcd hD hmg hg args vals as hpre hlay hrd hwl hlo
  obtain rfl : dV = .none := Dflts.none hD hdf
  obtain rfl : kV = .none := Dflts.noKw hD
  obtain ⟨a, vs, ns, rfl, rfl, hobj, hints, hlen⟩ := script_of hn hpre hwl
  refine enter_call (codeAny_mono (call w s₀ s₁ mg mb fa o pm cd doc a vs ns G Y ho (fd_plain hd) hcd hmg hobj hints hlen hg) fun r s' hq => ?_)
  obtain ⟨rfl, h2, h3, h4⟩ := hq
  exact ⟨.inl ⟨.bool true, .bool true, [], rfl, fun _ => rfl, .bool true, post_true l _, fun _ => ⟨List.Pairwise.nil, fun _ hm => (nomatch hm)⟩⟩, h2, h3, h4⟩

/-- the same where the top left finished generators (o_head chose holds_openN): nothing may have changed at all and no generator may be left -/
theorem attachN {l : OpenLaw} {n : Nat} {q : Program} {loose : List Str} {XP : (Str → Option Value) → Heap → Prop} {YP : World → Heap → Prop} {d : DefRec} {x : Str}
    (hn : l.most = some n) (hdf : d.params.defaults = [])
    (hbind : ∀ pm cd doc v : Value, bindArgs (docDef d.name d.params d.body d.scope pm cd doc) ⟨[v], []⟩ = pure [(x, v)])
    (hx : d.scope.names.lookup x = some .local ∨ d.scope.names.lookup x = some .cell)
    (hk : d.scope.kind = .function) (hco : d.scope.isCoroutine = false) (hgen : d.scope.isGenerator = false)
    (body : ∀ (w : World) (s₀ s₁ s : Shared) (mg mb : Str → Option Value) (fa : Addr) (o : Obj) (pm cd doc : Value) (a : Addr) (vs : List Value) (ns : List Int),
      Ground q loose [] XP w s₀ mg mb s₁.heap → YP w s₁.heap →
      s₁.heap.get? fa = some o → o.data = .func (docDef d.name d.params d.body d.scope pm cd doc) → s₁.heap.CodeRec cd d.name → mg d.name = some (.ref fa) →
      s₁.heap.get? a = some { cls := .type "list", data := .seq vs.toArray } → IntsAre vs ns → ns.length ≤ n →
      s.gens = #[] → s.os = s₁.os →
      Fr s₁.heap s₁.heap.objs.size s.heap (bindL (envOfC d.name d.scope s₁.heap.objs.size fa cd).kindOf [(x, .ref a)] fun _ => none) →
      Cl s₁.heap.objs.size (cellsFrom (s₁.heap.objs.size + 1) d.scope.names []) s.heap (bindC (envOfC d.name d.scope s₁.heap.objs.size fa cd).kindOf [(x, .ref a)] fun _ => none) →
      wpAny (model l.prog w) (callerA.deeper (envOfC d.name d.scope s₁.heap.objs.size fa cd)) (execs d.body (envOfC d.name d.scope s₁.heap.objs.size fa cd))
        (fun f s' => f = .ret (.bool true) ∧ (∀ b o, s₁.heap.get? b = some o → s'.heap.get? b = some o) ∧ s'.os = s₁.os ∧ s'.gens = #[]) (fun _ _ => False) s) :
    WalkN q loose XP YP l.row.toRowW d [] (fun f vs => PySem.call f vs) := by
  intro w s₀ s₁ mg mb G Y fa o pm cd doc dV kV ho hd hcd hD hmg hg args vals as hpre hlay hrd hwl hlo
  obtain rfl : dV = .none := Dflts.none hD hdf
  obtain rfl : kV = .none := Dflts.noKw hD
  obtain ⟨a, vs, ns, rfl, rfl, hobj, hints, hlen⟩ := script_of hn hpre hwl
  refine enter_callW ?_
  refine call_cells_ret (o := o) (by rw [depth_caller]; decide) ho (fd_plain hd) G.T.nolimit hcd (hbind pm cd doc (.ref a)) (fun y hy => ?_) (fun h₁ tk F X => ?_) hco hgen hk
  · obtain rfl : y = (x, Value.ref a) := List.mem_singleton.mp hy
    rcases hx with e | e
    · exact .inl e
    · exact .inr ⟨e, cellsFrom_some _ _ _ (.inl e)⟩
  · refine wpAny_mono (body w s₀ s₁ { s₁ with heap := h₁, toks := tk } mg mb fa o pm cd doc a vs ns G Y ho (fd_plain hd) hcd hmg hobj hints hlen hg rfl F X) (fun f s' hq => ?_) (fun _ _ hq => hq)
    obtain ⟨rfl, h2, h3, h4⟩ := hq
    exact ⟨.inl ⟨.bool true, .bool true, [], rfl, fun _ => rfl, .bool true, post_true l _, fun _ => ⟨List.Pairwise.nil, fun _ hm => (nomatch hm)⟩⟩, h2, h3, h4⟩

/-! ### rules over ANY heap (no ledger) from facts about the written part K: the library's own take a ledger (News) for what they write -/
section
variable {prog : Program} {w : World} {A : Around} {E : Value → Shared → Prop} {s : Shared} {K : Frag}

/-- a def of the module, or a method (qual 'C.m'), entered: the frame is the next address; cells behind it -/
theorem call_fn {R : Result → Shared → Prop} {name qual : Str} {params : Arguments} {body : List Stmt} {scope : Scope} {dV kV doc pm cdv ct oc : Value} {an od : Option Addr} {osl : Array (Option Value)} {f : Addr} {args : Args} {binds : List (Str × Value)}
    (X : K.In s.heap) (hlim : s.heap.NoLimit) (ho : K.lookup f = some ⟨oc, od, .func (fnOf name qual params body scope dV kV doc pm an cdv ct), osl⟩) (hcd : codeIn K cdv qual = true) (hroom : A.depth < recursionLimit)
    (hbind : BindsTo s (fnOf name qual params body scope dV kV doc pm an cdv ct) args binds)
    (hkind : (binds.all fun y => scope.names.lookup y.1 == some .local || scope.names.lookup y.1 == some .cell) = true)
    (h : ∀ s₁, InCallC s s.heap.objs.size (bindL (envOfC qual scope s.heap.objs.size f cdv).kindOf binds fun _ => none) (cellsFrom (s.heap.objs.size + 1) scope.names [])
        (bindC (envOfC qual scope s.heap.objs.size f cdv).kindOf binds fun _ => none) s₁ →
      wpAny (model prog w) (A.deeper (envOfC qual scope s.heap.objs.size f cdv)) (execs body (envOfC qual scope s.heap.objs.size f cdv))
        (fun fl s' => R (.ok (.ret (match fl with | .ret v => v | _ => .none))) s')
        (fun e s' => wpAny (model prog w) (A.deeper (envOfC qual scope s.heap.objs.size f cdv)) (leaving (envOfC qual scope s.heap.objs.size f cdv) e) (fun _ s'' => R (.error e) s'') (fun e' s'' => R (.error e') s'') s') s₁)
    (hco : scope.isCoroutine = false) (hgen : scope.isGenerator = false) (hk : scope.kind = .function) : codeAny (model prog w) A (.call (.ref f) args) R s := by
  refine codeAny_call_function hroom (X _ _ ho) rfl hco hgen rfl (codeRec_of X hcd) (hbind _ _ _ _ ?_)
  refine wpAny_newFunctionEnv_cells hk (kindsX hkind _) fun env he s₁ x => ?_
  subst he
  exact ⟨hlim.keeps x.toInCall.keep, codeAny_func (h s₁ x)⟩

/-- C(..): dict at size, instance at size + 1, then __init__ -/
theorem make_obj {R : Result → Shared → Prop} {C fI : Addr} {rest : List Value} {kw : List (Str × Value)}
    (X : K.In s.heap) (hm : makesIn K C = true) (hi : findIn K (.ref C) "__init__" = some (some (.ref fI))) (hf : isFn K (.ref fI) = true)
    (h : codeAny (model prog w) (A.under (.builtin "type.__call__" ⟨.ref C :: rest, kw⟩)) (.call (.ref fI) ⟨.ref (s.heap.objs.size + 1) :: rest, kw⟩) (InitBack (s.heap.objs.size + 1) R)
      { s with heap := (s.heap.push emptyDict).push (instObj C s.heap.objs.size) }) : codeAny (model prog w) A (.call (.ref C) ⟨rest, kw⟩) R s := by
  obtain ⟨hh, g, d, t, os⟩ := s
  exact make_core (makes_of X hm) (looks_findIn X hi) (fun self => bind_fn X self (beq_iff_eq.mp hf)) (.inl rfl) h

/-- x.name where the instance's dict holds the name and the class does not -/
theorem get_field {x C : Addr} {ox : Obj} {es : List DictEntry} {n : Nat} {name : Str} {expr : Bool} {v : Value} {Q : Value → Shared → Prop}
    (X : K.In s.heap) (I : PySem.W.InstAt s.heap x ox C (some (dictOf es n))) (hg : plainGet K C name = true) (hh : hasDictIn K C = true) (ha : findIn K (.ref C) name = some none)
    (hl : getL name es = some (some v)) (hv : handedIn v = true) (h : Q v { s with toks := s.toks + 1 }) : wpAny (model prog w) A (getAttr (.ref x) name expr) Q E s :=
  get_value X I (plainGet_of hg).1 (findObj_own hh ha rfl hl) hv h

/-- x.m(..): the method found in the class -/
theorem get_method {x C f : Addr} {ox : Obj} {es : List DictEntry} {n : Nat} {name : Str} {pl : Sem Bool} {Q : Value × List Value → Shared → Prop}
    (X : K.In s.heap) (I : PySem.W.InstAt s.heap x ox C (some (dictOf es n))) (hg : plainGet K C name = true) (hf : findIn K (.ref C) name = some (some (.ref f))) (ht : isFn K (.ref f) = true)
    (hl : getL name es = some none) (h : Q (.ref f, [.ref x]) s) : wpAny (model prog w) A (getMethod (.ref x) name pl) Q E s :=
  method_fn X I (plainGet_of hg).1 (plainGet_of hg).2 hf (beq_iff_eq.mp ht) (by show (lookIn name (dictOf es n)).map _ = _; rw [lookIn_dict, hl]; rfl) h

/-! the whole heap as the ledger: makes every rule that writes through a ledger a rule over any heap -/
def noObjs (h : Heap) : Heap := { h with objs := #[] }
theorem noObjs_get (h : Heap) (b : Addr) : (noObjs h).get? b = none := by
  cases e : (noObjs h).get? b with
  | none => rfl
  | some o => exact absurd (Heap.lt_size e) (Nat.not_lt_zero _)
def ledger (h : Heap) (L d : Addr) : List (Addr × Obj) := (List.range h.objs.size).filterMap fun a => if a = L ∨ a = d then none else (h.get? a).map fun o => (a, o)
theorem mem_ledger {h : Heap} {L d a : Addr} {o : Obj} : (a, o) ∈ ledger h L d ↔ a ≠ L ∧ a ≠ d ∧ h.get? a = some o := by
  unfold ledger
  rw [List.mem_filterMap]
  constructor
  · rintro ⟨b, _, e⟩
    split at e
    · cases e
    · rename_i hb
      obtain ⟨o', ho, e'⟩ := Option.map_eq_some_iff.mp e
      cases e'
      exact ⟨fun q => hb (.inl q), fun q => hb (.inr q), ho⟩
  · rintro ⟨n1, n2, ho⟩
    refine ⟨a, List.mem_range.mpr (Heap.lt_size ho), ?_⟩
    rw [if_neg (show ¬ (a = L ∨ a = d) from fun q => q.elim n1 n2), ho] <;> rfl
theorem news_ledger {h : Heap} {L d : Addr} {od : Obj} (hne : d ≠ L) (ho : h.get? d = some od) : News (noObjs h) L h ([] ++ (d, od) :: ledger h L d) := by
  rintro ⟨a, o⟩ hp
  rcases List.mem_cons.mp hp with e | hp
  · cases e
    exact ⟨ho, hne, noObjs_get _ _⟩
  · obtain ⟨n1, n2, e⟩ := mem_ledger.mp hp
    exact ⟨e, n1, noObjs_get _ _⟩
theorem fr_all {h : Heap} {L : Addr} {m : Str → Option Value} (n : h.Ns L m) : Fr (noObjs h) L h m :=
  ⟨n, fun b o e => (by rw [noObjs_get] at e; cases e), Nat.zero_le _⟩
/-- Upd of the head entry (for append_K, setItem_K ..) -/
theorem upd_ledger {h : Heap} {L d : Addr} {o o' : Obj} : Upd d o o' ((d, o) :: ledger h L d) ((d, o') :: ledger h L d) :=
  .head fun ⟨_, _⟩ hp => (mem_ledger.mp hp).2.1

/-- x.name = v over any heap: L is any namespace of the heap (the frame's, say): its map stays, its object is not told; all else but the dict stays -/
theorem set_field {x C dx L : Addr} {ox : Obj} {m : Str → Option Value} {es es' : List DictEntry} {n n' : Nat} {name : Str} {v : Value} {Q : Unit → Shared → Prop}
    (X : K.In s.heap) (I : PySem.W.InstAt s.heap x ox C (some (dictOf es n))) (hd : ox.dict = some dx) (hL : s.heap.Ns L m) (hne : dx ≠ L)
    (hs : findIn K (.ref C) "__setattr__" = some (some (.builtin "object.__setattr__"))) (hp : plainOver K C = true) (ht : takerIn K C name = some none) (hh : hasDictIn K C = true) (hl : (getL name es).isSome = true)
    (e : (putL name (PyData.keyHash w.params name) (.str name (s.toks + 1)) v es, putN name es n) = (es', n')) (hz : es'.length ≤ 1000)
    (h : ∀ h' : Heap, h'.Ns L m → h'.get? dx = some (dictOf es' n') → (∀ b o, b ≠ dx → b ≠ L → s.heap.get? b = some o → h'.get? b = some o) → Q () { s with heap := h', toks := s.toks + 2 }) :
    wpAny (model prog w) A (setAttr (.ref x) name v) Q E s := by
  obtain ⟨e1, e2⟩ := Prod.mk.inj e
  have hdx : s.heap.get? dx = some (dictOf es n) := by
    have := I.dict
    rw [hd] at this
    exact this
  refine set_plain X I hs (osa_dict (s := { s with toks := s.toks + 1 }) (h₀ := noObjs s.heap) (L := L) (m := m) (od := dictOf es n) (od' := dictOf es' n') (es := es') (n := n') (pre := []) (post := ledger s.heap L dx)
    (fr_all hL) (news_ledger hne hdx) X I hd hp ht hh hl (fun _ q => nomatch q) (fun ⟨_, _⟩ q => (mem_ledger.mp q).2.1) (by rw [putName_dict, e1, e2]) rfl hz fun h' F' N' => ?_)
  exact h h' F'.ns (N'.get (List.Mem.head _)) fun b o n1 n2 ho => N'.get (List.Mem.tail _ (mem_ledger.mpr ⟨n2, n1, ho⟩))
end
end Att

namespace L2
open PySem PySem.Spec PyProof.Rows

theorem vals_ints : ∀ {vs : List Value} {ns : List Int}, IntsAre vs ns → Vals (ns.map V.int) vs
  | _, _, .nil => .nil
  | _, _, .cons n t h => .cons ⟨t, rfl⟩ (vals_ints h)

/-- nothing is tracked but the script, known to the object (or it is an object of the module) -/
def Only (H : Hp) : Prop := ∀ b, H b = none ∨ ∃ o xs, H b = some (.frz o (.lst xs))

/-- THE HEAD: the law's promise, at the heap behind the top. F, the promise of the law's def, may use that base is part of the heap (so K.In base, base.Ns mainGlobals mg stand in Mod) -/
theorem law_call {P : Program} {w : World} {K : PySem.W.Frag} {mg mb : Str → Option Value} {CX : CXT} {k : Nat} {fa a : Addr} {fd : FuncData} {x : Str} {sp : Sp} {s₁ : Shared} {vs : List Value} {ns : List Int}
    (KX : K.In s₁.heap) (hns : s₁.heap.Ns mainGlobals mg) (hb : s₁.heap.Ns builtinsNs mb) (hbb : ∀ x : Str, x ≠ "__name__" → mb x = bootBuiltins x) (hlim : s₁.heap.NoLimit) (hg : s₁.gens = #[])
    (ha : s₁.heap.get? a = some { cls := .type "list", data := .seq vs.toArray }) (hi : IntsAre vs ns) (hl : ns.length ≤ sizeLine) (hr : Room k callerA)
    (F : ∀ base : Heap, K.In base → base.Ns mainGlobals mg → FnOk P w K mg base CX k fa fd [x] sp) (hbind : ∀ (s : Shared) (u : Value), BindsTo s fd ⟨[u], []⟩ [(x, u)])
    (hsp : ∀ H : Hp, Only H → SqL K H a (ns.map V.int) → sp [.ref a] H (fun v _ => v = .bl true) fun _ _ _ => False)
    (hCX : ∀ H e s', CX [] H s₁ (fun _ _ _ => False) e s' → False) :
    codeAny (model P w) callerA (.call (.ref fa) ⟨[.ref a], []⟩) (fun r s' => r = .ok (.ret (.bool true)) ∧ OldK s₁.heap s'.heap ∧ s'.os = s₁.os ∧ AllBare s'.gens) s₁ := by
  have rv := vals_ints hi
  have lenV := hi.length
  -- from an abstract heap in which nothing but the script may be tracked
  have core : ∀ H : Hp, Only H → SqL K H a (ns.map V.int) → HOk P w H s₁.heap → (∀ b, H b ≠ none → b = a) → (H a ≠ none → K.lookup a = none) →
      codeAny (model P w) callerA (.call (.ref fa) ⟨[.ref a], []⟩) (fun r s' => r = .ok (.ret (.bool true)) ∧ OldK s₁.heap s'.heap ∧ s'.os = s₁.os ∧ AllBare s'.gens) s₁ := by
    intro H hO hS hok hA hK
    have base_of : ∀ {b : Addr} {o : Obj}, s₁.heap.get? b = some o → H b = none → (hidT s₁.heap H).get? b = some o := fun e n => hidT_get e n
    have noA : ∀ {b : Addr} {o : Obj} {es : Array DictEntry} {ep : Nat}, s₁.heap.get? b = some o → o.data = .dict es ep → H b = none := fun {b o es ep} e d => by
      cases q : H b with
      | none => rfl
      | some u =>
        have e' : b = a := hA b (by rw [q]; simp)
        subst e'
        rw [ha] at e; cases e
        have d' : Data.seq vs.toArray _ = Data.dict es ep := d
        cases d'
    have nsK : ∀ {b : Addr} {m : Str → Option Value}, s₁.heap.Ns b m → (hidT s₁.heap H).Ns b m := fun {b m} ⟨o, es, ep, e, d, r⟩ => ⟨o, es, ep, base_of e (noA e d), d, r⟩
    have hKb : K.In (hidT s₁.heap H) := fun b o e => base_of (KX b o e) (by
      cases q : H b with
      | none => rfl
      | some u =>
        have e' : b = a := hA b (by rw [q]; simp)
        subst e'
        rw [hK (by rw [q]; simp)] at e; cases e)
    have hM : Mod K mg (hidT s₁.heap H) := ⟨hKb, nsK hns, ⟨mb, nsK hb, hbb⟩, let ⟨mc, h1, h2⟩ := hlim; ⟨mc, nsK h1, h2⟩⟩
    have e0 : Env0 P w K mg (hidT s₁.heap H) callerA [] s₁ H := ⟨rfl, hM, fun b o e => of_hidT e, Nat.le_of_eq (hidT_size _ _), trivial, fun b hb => absurd (show b ∈ ([] : List Addr) from hb) (by simp), hok, .of_eq hg⟩
    refine codeAny_mono ((F _ hKb (nsK hns)).run callerA [] s₁ H ⟨[.ref a], []⟩ [.ref a] [.ref a] _ _ hr e0 (hbind s₁ (.ref a)) (.cons rfl .nil) (hsp H hO hS)) fun r s' h => ?_
    cases r with
    | error e => exact (hCX H e s' h).elim
    | ok fl =>
      cases fl with
      | next => exact False.elim h
      | brk => exact False.elim h
      | cont => exact False.elim h
      | ret u =>
        obtain ⟨v, H', os, bare, un, hok', r', q⟩ := h
        have q' : v = .bl true := q
        subst q'
        obtain rfl : u = Value.bool true := r'
        refine ⟨rfl, OldK.of_keep fun b o e => ?_, os, bare⟩
        cases q : H b with
        | none => exact un.keep b o e q (by intro z; exact absurd (show b ∈ ([] : List Addr) from z) (by simp)) (by simp)
        | some u =>
          rcases hO b with z | ⟨ob, xs, z⟩
          · rw [q] at z; cases z
          · have z2 := un.frzs b ob _ z
            obtain ⟨e1, _⟩ := hok b _ z
            obtain ⟨e2, _⟩ := hok' b _ z2
            rw [e] at e1; cases e1
            exact e2
  cases hk : K.lookup a with
  | some o =>
    -- the script is one of the module's own objects
    have e := KX a o hk
    rw [ha] at e
    cases e
    refine core (fun _ => none) (fun _ => .inl rfl) (.inr ⟨_, vs.toArray, _, hk, rfl, rfl, rfl, by rw [List.size_toArray, lenV]; exact hl, by simpa using rv⟩) (fun b u z => by have z' : (none : Option HO) = some u := z; cases z') (fun b z => absurd rfl z) fun z => absurd rfl z
  | none =>
    refine core (fun b => if b = a then some (.frz { cls := .type "list", data := .seq vs.toArray } (.lst (ns.map V.int))) else none) (fun b => ?_) (.inl (.inr ⟨{ cls := .type "list", data := .seq vs.toArray }, if_pos rfl⟩)) (fun b u z => ?_) (fun b z => ?_) fun _ => hk
    · by_cases hb : b = a
      · exact .inr ⟨_, _, if_pos hb⟩
      · exact .inl (if_neg hb)
    · by_cases hb : b = a
      · have z' := (if_pos hb).symm.trans z
        cases z'
        subst hb
        exact ⟨ha, by rw [List.length_map]; exact hl, vs, _, rv, ha⟩
      · have z' := (if_neg hb).symm.trans z
        cases z'
    · by_cases hb : b = a
      · exact hb
      · exact absurd (if_neg hb) z
end L2

namespace L2
open PySem PySem.Spec PyProof.Rows

abbrev KOf {K : PySem.W.Frag} {h : Heap} (_ : K.In h) : PySem.W.Frag := K

/-- the goal that k_head leaves (case hc), from the law's promise. F gives the function object fd (K's own) once, then the promise over every base -/
theorem walk_of {l : PySem.W.OpenLaw} {n k : Nat} {q : Program} {loose : List Str} {XP : (Str → Option Value) → Heap → Prop} {YP : World → Heap → Prop} {d : DefRec} {K : Params → PySem.W.Frag} {CX : World → CXT} {sp : World → Sp} {x : Str}
    (hn : l.most = some n) (hn2 : n ≤ sizeLine) (hdf : d.params.defaults = []) (hr : Room k callerA)
    (hY : ∀ (w : World) (h : Heap), YP w h → (K w.params).In h)
    (F : ∀ (w : World) (mg : Str → Option Value) (fa : Addr) (h : Heap), (K w.params).In h → h.Ns mainGlobals mg → mg d.name = some (.ref fa) →
      ∃ fd : FuncData, (∀ (s : Shared) (u : Value), BindsTo s fd ⟨[u], []⟩ [(x, u)]) ∧
        ∀ base : Heap, (K w.params).In base → base.Ns mainGlobals mg → FnOk l.prog w (K w.params) mg base (CX w) k fa fd [x] (sp w))
    (hsp : ∀ (w : World) (H : Hp) (a : Addr) (ns : List Int), ns.length ≤ n → Only H → SqL (K w.params) H a (ns.map V.int) → sp w [.ref a] H (fun v _ => v = .bl true) fun _ _ _ => False)
    (hCX : ∀ (w : World) (H : Hp) (s : Shared) (e : Value) (s' : Shared), CX w [] H s (fun _ _ _ => False) e s' → False) :
    PySem.W.WalkO q loose XP YP l.row.toRowW d [] (fun f vs => PySem.call f vs) := by
  refine Att.attach_call hn hdf fun w s₀ s₁ mg mb fa o pm cd doc a vs ns G Y ho hd hcd hmg hobj hints hlen hg => ?_
  have KX := hY w _ Y
  obtain ⟨fd, hb, hF⟩ := F w mg fa _ KX G.T.g hmg
  exact law_call KX G.T.g G.T.b G.T.builtins G.T.nolimit hg hobj hints (Nat.le_trans hlen hn2) hr hF hb (fun H hO hS => hsp w H a ns hlen hO hS) fun H e s' => hCX w H s₁ e s'
/-- the same where the promise hangs on the written part alone: (sp := My.sp_law), no hole under a binder -/
theorem walk_ofK {l : PySem.W.OpenLaw} {n k : Nat} {q : Program} {loose : List Str} {XP : (Str → Option Value) → Heap → Prop} {YP : World → Heap → Prop} {d : DefRec} {K : Params → PySem.W.Frag} {CX : CXT} {sp : PySem.W.Frag → Sp} {x : Str}
    (hn : l.most = some n) (hn2 : n ≤ sizeLine) (hdf : d.params.defaults = []) (hr : Room k callerA)
    (hY : ∀ (w : World) (h : Heap), YP w h → (K w.params).In h)
    (F : ∀ (w : World) (mg : Str → Option Value) (fa : Addr) (h : Heap), (K w.params).In h → h.Ns mainGlobals mg → mg d.name = some (.ref fa) →
      ∃ fd : FuncData, (∀ (s : Shared) (u : Value), BindsTo s fd ⟨[u], []⟩ [(x, u)]) ∧
        ∀ base : Heap, (K w.params).In base → base.Ns mainGlobals mg → FnOk l.prog w (K w.params) mg base CX k fa fd [x] (sp (K w.params)))
    (hsp : ∀ (K : PySem.W.Frag) (H : Hp) (a : Addr) (ns : List Int), ns.length ≤ n → Only H → SqL K H a (ns.map V.int) → sp K [.ref a] H (fun v _ => v = .bl true) fun _ _ _ => False)
    (hCX : ∀ (H : Hp) (s : Shared) (e : Value) (s' : Shared), CX [] H s (fun _ _ _ => False) e s' → False) :
    PySem.W.WalkO q loose XP YP l.row.toRowW d [] (fun f vs => PySem.call f vs) :=
  walk_of (K := K) (CX := fun _ => CX) (sp := fun w => sp (K w.params)) hn hn2 hdf hr hY F (fun w H a ns h1 h2 h3 => hsp (K w.params) H a ns h1 h2 h3) fun _ H s e s' => hCX H s e s'
end L2

/- THE LAST THEOREM (shape; LID, My.* are yours):
   My.Adr: a structure of the addresses that your layer names (classes, functions); My.Txt K t: a structure (Prop) of the equations over K;
   My.txt_mk : {K} {implicit addresses ..} (e1 : nsIn K mainGlobals "law" = some (some (.ref f))) (e2 : K.lookup f = some ⟨oc, od, .func (fnOf "law" "law" params body scope dV kV doc pm an cdv ct), sl⟩) (e3 : codeIn K cdv "law" = true) .. : ∃ t, My.Txt K t

set_option maxRecDepth 100000 in
set_option maxHeartbeats 0 in
theorem PySem.Challenge.cw_LID_holds : PySem.Challenge.rw_LID.Holds := by
  w_on; o_law; k_head; (case hw => w_witness2)
  k_fill
  refine L2.walk_of (l := PySem.Challenge.rw_LID) (n := 63) (k := 40) (x := "script") (CX := fun w => ..) (sp := fun _ => My.sp_law) rfl (by decide) rfl ⟨rfl, by decide, by decide⟩ (fun w h Y => PySem.W.kIn_of Y) ?F ?S ?C
  case F =>
    intro w mg fa h KX G hmg
    have T : ∃ t, My.Txt (L2.KOf KX) t := by
      dsimp only [L2.KOf]                          -- K must stand as «<heap const> w.params» for k_is
      refine' My.txt_mk ?e1 ?e2 ?e3 ..
      (case e1 => PySem.W.k_is)                    -- in the order: a name -> its address -> its object -> its parts
      (case e2 => PySem.W.k_is)
      ..
    obtain ⟨t, T⟩ := T
    have e0 := hmg.symm.trans (PySem.W.mg_of KX G T.law)
    cases e0                                       -- fa is the law's own address
    exact ⟨_, fun s u => .of_eq rfl, fun base kb nb => My.law_fn T kb nb⟩     -- if «.of_eq rfl» comes too early: refine' ⟨_, ?b, fun base kb nb => My.law_fn T kb nb⟩; exact fun s u => .of_eq rfl
  case S => exact fun w H a ns hl hO hS => ..
  case C => exact ..
(the tactic k_is has no namespace: write k_is) -/

/-! SHORT WORDS over the layer: a def of the text, its body, what a loop and a test want. -/
namespace L2
open PySem PySem.Spec PyProof.Rows

/-! ### the text by places -/
/-- the j-th statement of a class's body -/
def inClass (s : Stmt) (j : Nat) : Stmt := match s with
  | .ClassDef _ _ _ body _ _ _ _ _ _ _ => body.getD j (.Pass ⟨0, 0, 0, 0⟩)
  | _ => .Pass ⟨0, 0, 0, 0⟩
def defArgs (s : Stmt) : Arguments := match s with
  | .FunctionDef _ a _ _ _ _ _ _ _ _ => a
  | _ => { posonlyargs := [], args := [], vararg := none, kwonlyargs := [], kw_defaults := [], kwarg := none, defaults := [] }
def defBody (s : Stmt) : List Stmt := match s with
  | .FunctionDef _ _ b _ _ _ _ _ _ _ => b
  | _ => []
def defScope (s : Stmt) : Scope := match s with
  | .FunctionDef _ _ _ _ _ _ sc _ _ _ => sc
  | _ => { kind := .function, names := [], isGenerator := false, isCoroutine := false }

/-! ### no exception leaves a def -/
abbrev CX0 : CXT := fun _ _ _ _ _ _ => False
abbrev E0 : XK := fun _ _ _ => False
theorem pass0 {X : Cx} : Passes CX0 X E0 := fun _ _ _ _ _ _ _ h => h.elim

/-! ### a def (or method) of the text as it stands behind the top -/
structure Fun (K : PySem.W.Frag) (x qual : Str) (st : Stmt) (f : Addr) (fd : FuncData) : Prop where
  ex : ∃ (oc : Value) (od : Option Addr) (kV doc pm : Value) (an : Option Addr) (cdv ct : Value) (osl : Array (Option Value)),
    fd = PySem.W.fnOf x qual (defArgs st) (defBody st) (defScope st) .none kV doc pm an cdv ct ∧ K.lookup f = some ⟨oc, od, .func fd, osl⟩ ∧ PySem.W.codeIn K cdv qual = true
  kp : PySem.W.keepIn K (.ref f) = true
section
variable {P : Program} {w : World} {K : PySem.W.Frag} {mg : Str → Option Value} {base : Heap}
/-- THE RULE for a def: its body as a term of rules, and the reading of that term -/
theorem Fun.ok {x qual : Str} {st : Stmt} {f : Addr} {fd : FuncData} {N ps : List Str} {k : Nat} {sp : Sp} (F : Fun K x qual st f fd) (S : FnScope N ps (defScope st)) (len : ∀ vs H Q E, sp vs H Q E → vs.length = ps.length)
    (hbody : ∀ (cdv : Value) (A : Around) (outer : List Env) (s : Shared) (H : Hp) (vs : List V) (Q : VK) (E : XK), Room k (A.deeper (envOfC qual (defScope st) s.heap.objs.size f cdv)) → sp vs H Q E →
      ∃ t, PSs (cxOf CX0 P w K mg base N qual (defScope st) f cdv A outer s H E).nox (defBody st) t ∧ t { nx := fun _ H' => Q .non H', rt := Q } (start N vs) H) : FnOk P w K mg base CX0 (k + 1) f fd ps sp := by
  obtain ⟨oc, od, kV, doc, pm, an, cdv, ct, osl, rfl, lk, hcd⟩ := F.ex
  refine fn_of lk hcd S len fun A outer s H vs Q E hr hsp => ?_
  obtain ⟨t, h, q⟩ := hbody cdv A outer s H vs Q E hr hsp
  exact ⟨t, h.nox, q⟩
/-- how its arguments bind (no defaults): h is «fun _ _ _ _ _ _ us hl => match us, hl with | [_, _], _ => rfl», one _ a parameter -/
theorem Fun.binds {x qual : Str} {st : Stmt} {f : Addr} {fd : FuncData} {ps : List Str} (F : Fun K x qual st f fd)
    (h : ∀ (kV doc pm : Value) (an : Option Addr) (cdv ct : Value) (us : List Value), us.length = ps.length → bindArgs (PySem.W.fnOf x qual (defArgs st) (defBody st) (defScope st) .none kV doc pm an cdv ct) ⟨us, []⟩ = pure (ps.zip us)) : Binds K fd ps [] := by
  obtain ⟨oc, od, kV, doc, pm, an, cdv, ct, osl, rfl, lk, hcd⟩ := F.ex
  exact .all (h kV doc pm an cdv ct)
theorem fun_mk {x qual : Str} {st : Stmt} {f : Addr} {oc : Value} {od an : Option Addr} {osl : Array (Option Value)} {kV doc pm cdv ct : Value} (l : K.lookup f = some ⟨oc, od, .func (PySem.W.fnOf x qual (defArgs st) (defBody st) (defScope st) .none kV doc pm an cdv ct), osl⟩)
    (c : PySem.W.codeIn K cdv qual = true) (k : PySem.W.keepIn K (.ref f) = true) : Fun K x qual st f (PySem.W.fnOf x qual (defArgs st) (defBody st) (defScope st) .none kV doc pm an cdv ct) := ⟨⟨oc, od, kV, doc, pm, an, cdv, ct, osl, rfl, l, c⟩, k⟩
end
theorem hu_of {A : Around} {k : Nat} (hr : Room k A) : A.units + 1 < cLine := Nat.lt_of_le_of_lt (Nat.add_le_add_left (by decide : 1 ≤ 64) _) hr.units
theorem small1000 {n : Nat} (h : n ≤ 1000) : n < sizeLine := Nat.lt_of_le_of_lt h (by decide)

/-! ### expressions in short: the name that stands in the i-th slot -/
section
variable {X : Cx}
theorem pv (i : Nat) {x : Str} {pos : Pos} (hN : X.N[i]? = some x := by rfl) (hv : Vis X.env.scope x := by first | exact Or.inl rfl | exact Or.inr (Or.inl rfl) | exact Or.inr (Or.inr rfl)) (hd : (x == ("__debug__" : Str)) = false := by decide)
    (hcd : (x == ("__classdict__" : Str)) = false := by decide) : PE X (.Name x pos) (tVar i) := pe_var hN hv hd hcd
end

/-! ### tests -/
theorem iteF {A B : Prop} (h : B) : if false = true then A else B := by
  rw [if_neg Bool.false_ne_true]
  exact h
theorem iteT {A B : Prop} (h : A) : if true = true then A else B := by
  rw [if_pos rfl]
  exact h
theorem ite2 {c A B : Prop} [Decidable c] (h1 : c → A) (h2 : ¬ c → B) : if c then A else B := by
  by_cases h : c
  · rw [if_pos h]
    exact h1 h
  · rw [if_neg h]
    exact h2 h
theorem iteNS {c A B : Prop} [Decidable c] (hc : c) (h : B) : if (!decide c) = true then A else B := by
  rw [decide_eq_true hc]
  exact iteF h

/-! ### heaps -/
/-- all that was tracked is as it was -/
def Same (H H' : Hp) : Prop := ∀ b o, H b = some o → H' b = some o
theorem Same.refl (H : Hp) : Same H H := fun _ _ h => h
theorem Same.trans {H H1 H2 : Hp} (a : Same H H1) (b : Same H1 H2) : Same H H2 := fun c o h => b c o (a c o h)
theorem Same.free {H H' : Hp} (e : Same H H') {l : Addr} (h : H' l = Option.none) : H l = Option.none := by
  cases q : H l with
  | none => rfl
  | some o =>
    rw [e l o q] at h
    cases h
theorem Same.seq {K : PySem.W.Frag} {H H' : Hp} {a : Addr} {xs : List V} (e : Same H H') (h : SqL K H a xs) : SqL K H' a xs := by
  rcases h with (h | ⟨o, h⟩) | h
  · exact .inl (.inl (e _ _ h))
  · exact .inl (.inr ⟨o, e _ _ h⟩)
  · exact .inr h

end L2


namespace L2
open PySem PySem.Spec PyProof.Rows

/-! ### lists of pairs as tables -/
section
variable {κ : Type} [DecidableEq κ]
def valV (kvs : List (κ × V)) (k : κ) : Option V := (kvs.find? fun kv => decide (kv.1 = k)).map (·.2)
/-- in its place, or at the end -/
def putK (kvs : List (κ × V)) (k : κ) (v : V) : List (κ × V) :=
  if (kvs.any fun kv => decide (kv.1 = k)) = true then kvs.map (fun kv => if kv.1 = k then (kv.1, v) else kv) else kvs ++ [(k, v)]
def dropK (kvs : List (κ × V)) (k : κ) : List (κ × V) := kvs.filter fun kv => decide (kv.1 ≠ k)

theorem valV_nil {k : κ} : valV ([] : List (κ × V)) k = none := rfl
theorem valV_pos {p : κ × V} {r : List (κ × V)} {k : κ} (e : p.1 = k) : valV (p :: r) k = some p.2 := by simp [valV, List.find?_cons, e]
theorem valV_neg {p : κ × V} {r : List (κ × V)} {k : κ} (e : ¬ p.1 = k) : valV (p :: r) k = valV r k := by simp [valV, List.find?_cons, e]
theorem valV_any (k : κ) : ∀ kvs : List (κ × V), (kvs.any fun kv => decide (kv.1 = k)) = (valV kvs k).isSome
  | [] => rfl
  | p :: r => by
    rw [List.any_cons]
    by_cases e : p.1 = k
    · simp only [valV_pos e, decide_eq_true e, Bool.true_or, Option.isSome_some]
    · rw [valV_neg e, decide_eq_false e, Bool.false_or]; exact valV_any k r
theorem valV_map (k j : κ) (y : V) : ∀ kvs : List (κ × V), valV (kvs.map fun kv => if kv.1 = k then (kv.1, y) else kv) j = (valV kvs j).map fun x => if j = k then y else x
  | [] => rfl
  | p :: r => by
    have ih := valV_map k j y r
    rw [List.map_cons]
    by_cases h : p.1 = k
    · rw [if_pos h]
      by_cases e : p.1 = j
      · rw [valV_pos (p := (p.1, y)) e, valV_pos e, Option.map_some, if_pos (e.symm.trans h)]
      · rw [valV_neg (p := (p.1, y)) e, valV_neg e, ih]
    · rw [if_neg h]
      by_cases e : p.1 = j
      · rw [valV_pos (p := p) e, valV_pos e, Option.map_some, if_neg (fun z => h (e.trans z))]
      · rw [valV_neg (p := p) e, valV_neg e, ih]
theorem valV_snoc (k j : κ) (y : V) : ∀ kvs : List (κ × V), valV kvs k = none → valV (kvs ++ [(k, y)]) j = if j = k then some y else valV kvs j
  | [], _ => by
    by_cases e : k = j
    · rw [if_pos e.symm]; exact valV_pos (p := (k, y)) e
    · rw [if_neg (fun z => e z.symm)]; exact valV_neg (p := (k, y)) e
  | p :: r, hn => by
    rw [List.cons_append]
    have hk : ¬ p.1 = k := fun z => by rw [valV_pos z] at hn; cases hn
    rw [valV_neg hk] at hn
    have ih := valV_snoc k j y r hn
    by_cases e : p.1 = j
    · rw [valV_pos e, valV_pos e, if_neg (fun z => hk (e.trans z))]
    · rw [valV_neg e, valV_neg e, ih]
theorem valV_put (kvs : List (κ × V)) (k j : κ) (y : V) : valV (putK kvs k y) j = if j = k then some y else valV kvs j := by
  unfold putK
  by_cases a : (kvs.any fun kv => decide (kv.1 = k)) = true
  · rw [if_pos a, valV_map]
    rw [valV_any] at a
    by_cases e : j = k
    · obtain ⟨x, hx⟩ := Option.isSome_iff_exists.mp a
      rw [if_pos e, e, hx, Option.map_some, if_pos rfl]
    · rw [if_neg e]
      cases valV kvs j with
      | none => rfl
      | some x => rw [Option.map_some, if_neg e]
  · rw [if_neg a]
    refine valV_snoc k j y kvs ?_
    rw [valV_any] at a
    cases q : valV kvs k with
    | none => rfl
    | some x => rw [q] at a; exact (a rfl).elim
theorem length_putK (kvs : List (κ × V)) (k : κ) (v : V) : (putK kvs k v).length ≤ kvs.length + 1 := by
  unfold putK
  split
  · rw [List.length_map]; omega
  · rw [List.length_append, List.length_cons, List.length_nil]; omega
theorem putK_new {kvs : List (κ × V)} {k : κ} (v : V) (h : valV kvs k = none) : putK kvs k v = kvs ++ [(k, v)] := by
  unfold putK
  rw [valV_any, h]
  exact if_neg (by decide)

theorem RelO.isSome_eq {o : Option V} {u : Option Value} (r : RelO o u) : o.isSome = u.isSome := by
  cases o with
  | none => cases u with
    | none => rfl
    | some _ => exact (show False from r).elim
  | some _ => cases u with
    | none => exact (show False from r).elim
    | some _ => rfl
theorem RelO.getD {o : Option V} {u : Option Value} {d : V} {d' : Value} (r : RelO o u) (rd : RelV d d') : RelV (o.getD d) (u.getD d') := by
  cases o with
  | none => cases u with
    | none => exact rd
    | some _ => exact (show False from r).elim
  | some _ => cases u with
    | none => exact (show False from r).elim
    | some _ => exact r

/-- raw tables of the same keys -/
theorem KV.val {kvs : List (κ × V)} {vs : List (κ × Value)} (r : KV kvs vs) (k : κ) : RelO (valV kvs k) (valueAt vs k) := by
  unfold KV at r
  induction r with
  | nil => exact True.intro
  | @cons p q ps qs h t ih =>
    obtain ⟨h1, h2⟩ := h
    by_cases e : p.1 = k
    · have e' : q.1 = k := h1.symm.trans e
      have b : valueAt (q :: qs) k = some q.2 := by simp [valueAt, List.find?_cons, e']
      rw [valV_pos e, b]; exact h2
    · have e' : ¬ q.1 = k := fun z => e (h1.trans z)
      have b : valueAt (q :: qs) k = valueAt qs k := by simp [valueAt, List.find?_cons, e']
      rw [valV_neg e, b]; exact ih
theorem KV.any {kvs : List (κ × V)} {vs : List (κ × Value)} (r : KV kvs vs) (k : κ) : (kvs.any fun kv => decide (kv.1 = k)) = vs.any fun kv => decide (kv.1 = k) := by
  unfold KV at r
  induction r with
  | nil => rfl
  | cons h t ih => rw [List.any_cons, List.any_cons, ih, h.1]
theorem KV.repl {kvs : List (κ × V)} {vs : List (κ × Value)} (r : KV kvs vs) (k : κ) {y : V} {u : Value} (ry : RelV y u) :
    KV (kvs.map fun kv => if kv.1 = k then (kv.1, y) else kv) (vs.map fun kv => if kv.1 = k then (kv.1, u) else kv) := by
  unfold KV at r ⊢
  induction r with
  | nil => exact .nil
  | @cons p q ps qs h t ih =>
    rw [List.map_cons, List.map_cons]
    refine .cons ?_ ih
    obtain ⟨h1, h2⟩ := h
    by_cases e : p.1 = k
    · rw [if_pos e, if_pos (h1.symm.trans e)]; exact ⟨h1, ry⟩
    · rw [if_neg e, if_neg (fun z => e (h1.trans z))]; exact ⟨h1, h2⟩
theorem KV.put {kvs : List (κ × V)} {vs : List (κ × Value)} (r : KV kvs vs) (k : κ) {y : V} {u : Value} (ry : RelV y u) : KV (putK kvs k y) (stored vs k u) := by
  unfold putK stored
  rw [r.any k]
  by_cases e : (vs.any fun kv => decide (kv.1 = k)) = true
  · rw [if_pos e, if_pos e]; exact r.repl k ry
  · rw [if_neg e, if_neg e]; exact Paired.snoc r ⟨rfl, ry⟩
theorem KV.drop {kvs : List (κ × V)} {vs : List (κ × Value)} (r : KV kvs vs) (k : κ) : KV (dropK kvs k) (without vs k) := by
  unfold KV at r ⊢
  unfold dropK without
  induction r with
  | nil => exact .nil
  | @cons p q ps qs h t ih =>
    obtain ⟨h1, h2⟩ := h
    rw [List.filter_cons, List.filter_cons]
    by_cases e : p.1 = k
    · have a : ¬ decide (p.1 ≠ k) = true := by simp [e]
      have b : ¬ decide (q.1 ≠ k) = true := by simp [h1.symm.trans e]
      rw [if_neg a, if_neg b]; exact ih
    · have e' : ¬ q.1 = k := fun z => e (h1.trans z)
      have a : decide (p.1 ≠ k) = true := by simp [e]
      have b : decide (q.1 ≠ k) = true := by simp [e']
      rw [if_pos a, if_pos b]; exact .cons ⟨h1, h2⟩ ih
theorem KV.keys {kvs : List (κ × V)} {vs : List (κ × Value)} (r : KV kvs vs) : kvs.map (·.1) = vs.map (·.1) := by
  unfold KV at r
  induction r with
  | nil => rfl
  | cons h t ih => rw [List.map_cons, List.map_cons, ih, h.1]
theorem KV.length {kvs : List (κ × V)} {vs : List (κ × Value)} (r : KV kvs vs) : kvs.length = vs.length := Paired.length r
theorem dropK_le (kvs : List (κ × V)) (k : κ) : (dropK kvs k).length ≤ kvs.length := List.length_filter_le _ _
end


/-! ### a tracked dict, its keys ints and texts or tuples of these -/
theorem kV_is {P : Program} {w : World} {k : Key} {u : Value} (r : RelV (kV k) u) : (mixKind P w).is k u = true := by
  cases k with
  | inl i => obtain ⟨t, e⟩ := (show ∃ t, u = Value.int i t from r); subst e; exact mixKind_int P w i t
  | inr x => obtain ⟨t, e⟩ := (show ∃ t, u = Value.str x t from r); subst e; exact mixKind_str P w x t
theorem kV_inj {a b : Key} (e : kV a = kV b) : a = b := by
  cases a with
  | inl i => cases b with
    | inl j => have e' : V.int i = V.int j := e; injection e' with e'; rw [e']
    | inr y => exact nomatch (show V.int i = V.str y from e)
  | inr x => cases b with
    | inl j => exact nomatch (show V.str x = V.int j from e)
    | inr y => have e' : V.str x = V.str y := e; injection e' with e'; rw [e']
theorem kVs_inj : ∀ {a b : List Key}, a.map kV = b.map kV → a = b
  | [], [], _ => rfl
  | [], _ :: _, e => by simp at e
  | _ :: _, [], e => by simp at e
  | x :: xs, y :: ys, e => by
    rw [List.map_cons, List.map_cons] at e
    injection e with e1 e2
    rw [kV_inj e1, kVs_inj e2]
theorem items_are {P : Program} {w : World} : ∀ {ks : List Key} {us : List Value}, Vals (ks.map kV) us → ItemsAre (mixKind P w) ks us
  | [], _, r => by rw [List.map_nil] at r; cases r; exact .nil
  | k :: ks, _, r => by
    rw [List.map_cons] at r
    cases r with
    | cons h t => exact .cons (kV_is h) (items_are t)

/-- raw entries of a dict with tuple keys -/
abbrev KT (H : Hp) : List (List Key × V) → List (List Key × Addr × Value) → Prop := Paired fun p q => p.1 = q.1 ∧ H q.2.1 = some (.tup (p.1.map kV)) ∧ RelV p.2 q.2.2
theorem KT.val {H : Hp} {kvs : List (List Key × V)} {xs : List (List Key × Addr × Value)} (r : KT H kvs xs) (k : List Key) : RelO (valV kvs k) ((atKey xs k).map (·.2)) := by
  induction r with
  | nil => exact True.intro
  | @cons p q ps qs h t ih =>
    obtain ⟨h1, _, h2⟩ := h
    by_cases e : p.1 = k
    · have e' : q.1 = k := h1.symm.trans e
      have b : atKey (q :: qs) k = some q.2 := by simp [atKey, List.find?_cons, e']
      rw [valV_pos e, b]; exact h2
    · have e' : ¬ q.1 = k := fun z => e (h1.trans z)
      have b : atKey (q :: qs) k = atKey qs k := by simp [atKey, List.find?_cons, e']
      rw [valV_neg e, b]; exact ih
theorem KT.repl {H : Hp} {kvs : List (List Key × V)} {xs : List (List Key × Addr × Value)} (r : KT H kvs xs) (k : List Key) {y : V} {u : Value} (ry : RelV y u) :
    KT H (kvs.map fun kv => if kv.1 = k then (kv.1, y) else kv) (xs.map (putAt k u)) := by
  induction r with
  | nil => exact .nil
  | @cons p q ps qs h t ih =>
    rw [List.map_cons, List.map_cons]
    refine .cons ?_ ih
    obtain ⟨h1, h2, h3⟩ := h
    unfold putAt
    by_cases e : p.1 = k
    · rw [if_pos e, if_pos (h1.symm.trans e)]; exact ⟨h1, h2, ry⟩
    · rw [if_neg e, if_neg (fun z => e (h1.trans z))]; exact ⟨h1, h2, h3⟩
theorem KT.put {H : Hp} {kvs : List (List Key × V)} {xs : List (List Key × Addr × Value)} (r : KT H kvs xs) (k : List Key) {b : Addr} {y : V} {u : Value} (hb : H b = some (.tup (k.map kV))) (ry : RelV y u) :
    KT H (putK kvs k y) (storedH xs k b u) := by
  have e : (kvs.any fun kv => decide (kv.1 = k)) = (atKey xs k).isSome := by
    rw [valV_any, (r.val k).isSome_eq, Option.isSome_map]
  unfold putK storedH
  rw [e]
  by_cases q : (atKey xs k).isSome = true
  · rw [if_pos q, if_pos q]; exact r.repl k ry
  · rw [if_neg q, if_neg q]; exact Paired.snoc r ⟨rfl, hb, ry⟩
theorem KT.keeps {H H' : Hp} {kvs : List (List Key × V)} {xs : List (List Key × Addr × Value)} (r : KT H kvs xs) (ht : ∀ b ys, H b = some (.tup ys) → H' b = some (.tup ys)) : KT H' kvs xs :=
  Paired.mapP r fun _ _ z => ⟨z.1, ht _ _ z.2.1, z.2.2⟩

section
variable {P : Program} {w : World} {H : Hp} {h : Heap} {a : Addr}
theorem rd_of {u : HO} (ok : HOk P w H h) (e : Rd H a u) : ObjOk P w H h a u := e.ok ok
theorem dk_rd {kvs : List (Key × V)} (ok : HOk P w H h) (e : Rd H a (.dK kvs)) : kvs.length ≤ sizeLine ∧ (a == sysModules) = false ∧ ∃ vs, KV kvs vs ∧ h.DictOf (mixKind P w) a vs :=
  show ObjOk P w H h a (.dK kvs) from rd_of ok e
theorem dk_of {kvs : List (Key × V)} (ok : HOk P w H h) (e : H a = some (.dK kvs)) : kvs.length ≤ sizeLine ∧ (a == sysModules) = false ∧ ∃ vs, KV kvs vs ∧ h.DictOf (mixKind P w) a vs := dk_rd ok (.inl e)
/-- a tracked tuple of ints and texts is a key -/
theorem key_of {ks : List Key} (ok : HOk P w H h) (e : H a = some (.tup (ks.map kV))) : (tupleKind (mixKind P w)).is h ks a := by
  obtain ⟨_, its, r, o, h1, h2, n, h3⟩ := (show ObjOk P w H h a (.tup (ks.map kV)) from ok a _ e)
  exact ⟨o, its.toArray, n, h1, h2, h3, by simpa using items_are r⟩
theorem dt_rd {kvs : List (List Key × V)} (ok : HOk P w H h) (e : Rd H a (.dT kvs)) : kvs.length ≤ sizeLine ∧ (a == sysModules) = false ∧
    ∃ xs, KT H kvs xs ∧ h.DictOfH (tupleKind (mixKind P w)) a xs := by
  obtain ⟨z, y, xs, r, o, es, ep, h1, h2, h3, h4, h5⟩ := (show ObjOk P w H h a (.dT kvs) from rd_of ok e)
  refine ⟨z, y, xs, r, o, es, ep, h1, h2, h3, h4, fun x hx => ?_, h5⟩
  have all : ∀ {l : List (List Key × V)} {m : List (List Key × Addr × Value)}, KT H l m → ∀ x ∈ m, (tupleKind (mixKind P w)).is h x.1 x.2.1 := by
    intro l m q
    induction q with
    | nil => intro x hx; exact nomatch hx
    | @cons p q ps qs hq t ih =>
      intro x hx
      rcases List.mem_cons.mp hx with e | hx
      · subst e
        exact key_of ok (by rw [← hq.1]; exact hq.2.1)
      · exact ih x hx
  exact all r x hx
theorem dt_of {kvs : List (List Key × V)} (ok : HOk P w H h) (e : H a = some (.dT kvs)) : kvs.length ≤ sizeLine ∧ (a == sysModules) = false ∧
    ∃ xs, KT H kvs xs ∧ h.DictOfH (tupleKind (mixKind P w)) a xs := dt_rd ok (.inl e)
end

/-- what the dict at a holds at the key y -/
def DGet (H : Hp) (a : Addr) (y : V) (r : Option V) : Prop :=
  (∃ kvs k, Rd H a (.dK kvs) ∧ y = kV k ∧ r = valV kvs k) ∨ ∃ kvs k b, Rd H a (.dT kvs) ∧ y = .ref b ∧ H b = some (.tup (k.map kV)) ∧ r = valV kvs k
/-- the heap behind a[y] = v -/
def DPut (H : Hp) (a : Addr) (y v : V) (H' : Hp) : Prop :=
  (∃ kvs k, H a = some (.dK kvs) ∧ y = kV k ∧ kvs.length < sizeLine ∧ H' = upd H a (.dK (putK kvs k v))) ∨
  ∃ kvs k b, H a = some (.dT kvs) ∧ y = .ref b ∧ H b = some (.tup (k.map kV)) ∧ kvs.length < sizeLine ∧ H' = upd H a (.dT (putK kvs k v))
theorem DGet.k {H : Hp} {a : Addr} {kvs : List (Key × V)} {k : Key} (e : H a = some (.dK kvs)) : DGet H a (kV k) (valV kvs k) := .inl ⟨kvs, k, .inl e, rfl, rfl⟩
theorem DGet.t {H : Hp} {a b : Addr} {kvs : List (List Key × V)} {k : List Key} (e : H a = some (.dT kvs)) (eb : H b = some (.tup (k.map kV))) : DGet H a (.ref b) (valV kvs k) := .inr ⟨kvs, k, b, .inl e, rfl, eb, rfl⟩
theorem DPut.k {H : Hp} {a : Addr} {kvs : List (Key × V)} {k : Key} {v : V} (e : H a = some (.dK kvs)) (hl : kvs.length < sizeLine) : DPut H a (kV k) v (upd H a (.dK (putK kvs k v))) := .inl ⟨kvs, k, e, rfl, hl, rfl⟩
theorem DPut.t {H : Hp} {a b : Addr} {kvs : List (List Key × V)} {k : List Key} {v : V} (e : H a = some (.dT kvs)) (eb : H b = some (.tup (k.map kV))) (hl : kvs.length < sizeLine) :
    DPut H a (.ref b) v (upd H a (.dT (putK kvs k v))) := .inr ⟨kvs, k, b, e, rfl, eb, hl, rfl⟩


section
variable {X : Cx} {pins : List (Addr × Obj)} {σ : St} {H : Hp} {s : Shared} {a : Addr} {y v : V} {u r : Value} {o : Option V} {A : Around} {E : Value → Shared → Prop}

theorem Inv.big (I : Inv X pins σ H s) : sysModules < s.heap.objs.size := by
  have h : mainGlobals < s.heap.objs.size := (I.mod.glob.keeps I.bk).lt
  exact Nat.lt_trans (by decide) h

/-- d[y], there -/
theorem d_getItem {Q : Value → Shared → Prop} (hu : A.units + 1 < cLine) (I : Inv X pins σ H s) (g : DGet H a y (some v)) (ry : RelV y u) (h : ∀ w' s', Inv X pins σ H s' → RelV v w' → Q w' s') :
    wpAny (model X.prog X.w) A (getItem (.ref a) u) Q E s := by
  rcases g with ⟨kvs, k, e, ey, l⟩ | ⟨kvs, k, b, e, ey, eb, l⟩
  · subst ey
    obtain ⟨z, hd, vs, rel, dd⟩ := dk_rd I.hok e
    obtain ⟨w', hw, rw'⟩ := RelO.some_of (v := v) (o := valueAt vs k) (by rw [l]; exact rel.val k)
    exact wpAny_getItem_of (kV_is ry) dd.mapOf hw (h w' _ (I.tok _) rw')
  · subst ey
    cases (show u = Value.ref b from ry)
    obtain ⟨z, hd, xs, rel, dd⟩ := dt_rd I.hok e
    obtain ⟨w', hw, rw'⟩ := RelO.some_of (v := v) (o := (atKey xs k).map (·.2)) (by rw [l]; exact rel.val k)
    obtain ⟨p, hp, hp2⟩ := Option.map_eq_some_iff.mp hw
    refine wpAny_getItem_heap (tupleKind_room_in1 hu) (key_of I.hok eb) dd hp ?_
    rw [hp2]
    exact h w' _ (I.tok _) rw'
/-- y in d -/
theorem d_in {Q : Value → Shared → Prop} (hu : A.units + 1 < cLine) (I : Inv X pins σ H s) (g : DGet H a y o) (ry : RelV y u) (h : ∀ s', Inv X pins σ H s' → Q (.bool o.isSome) s') :
    wpAny (model X.prog X.w) A (compareOp .In u (.ref a)) Q E s := by
  rcases g with ⟨kvs, k, e, ey, l⟩ | ⟨kvs, k, b, e, ey, eb, l⟩
  · subst ey
    obtain ⟨z, hd, vs, rel, dd⟩ := dk_rd I.hok e
    refine wpAny_in_of (kV_is ry) hd dd.mapOf ?_
    rw [← (rel.val k).isSome_eq, ← l]
    exact h _ (I.tok _)
  · subst ey
    cases (show u = Value.ref b from ry)
    obtain ⟨z, hd, xs, rel, dd⟩ := dt_rd I.hok e
    refine wpAny_in_heap (tupleKind_room_in1 hu) (key_of I.hok eb) hd dd ?_
    have q := (rel.val k).isSome_eq
    rw [Option.isSome_map] at q
    rw [← q, ← l]
    exact h _ (I.tok _)
theorem d_notIn {Q : Value → Shared → Prop} (hu : A.units + 1 < cLine) (I : Inv X pins σ H s) (g : DGet H a y o) (ry : RelV y u) (h : ∀ s', Inv X pins σ H s' → Q (.bool (!o.isSome)) s') :
    wpAny (model X.prog X.w) A (compareOp .NotIn u (.ref a)) Q E s := by
  rcases g with ⟨kvs, k, e, ey, l⟩ | ⟨kvs, k, b, e, ey, eb, l⟩
  · subst ey
    obtain ⟨z, hd, vs, rel, dd⟩ := dk_rd I.hok e
    refine wpAny_notIn_of (kV_is ry) hd dd.mapOf ?_
    rw [← (rel.val k).isSome_eq, ← l]
    exact h _ (I.tok _)
  · subst ey
    cases (show u = Value.ref b from ry)
    obtain ⟨z, hd, xs, rel, dd⟩ := dt_rd I.hok e
    refine wpAny_notIn_heap (tupleKind_room_in1 hu) (key_of I.hok eb) hd dd ?_
    have q := (rel.val k).isSome_eq
    rw [Option.isSome_map] at q
    rw [← q, ← l]
    exact h _ (I.tok _)
/-- a dict's object is replaced -/
theorem d_write {h' : Heap} {t' : Nat} {ob : HO} (I : Inv X pins σ H s) (mu : Mut (H a)) (hs : Heap.SameBut a s.heap h') (he : ∃ q, h'.get? a = some q) (new : ObjOk X.prog X.w (upd H a ob) h' a ob) :
    Inv X pins σ (upd H a ob) { s with heap := h', toks := t' } :=
  I.write (x := a) (e := a) mu (.inl rfl) (fun b q hb z => (hs.2 b hb).trans z) he new
theorem dk_new {P : Program} {w : World} {H' : Hp} {h' : Heap} {kvs : List (Key × V)} {vs : List (Key × Value)} (z : kvs.length ≤ sizeLine) (hd : (a == sysModules) = false) (rel : KV kvs vs) (dd : h'.DictOf (mixKind P w) a vs) :
    ObjOk P w H' h' a (.dK kvs) := ⟨z, hd, vs, rel, dd⟩
/-- d[y] = v -/
theorem d_setItem {H' : Hp} {Q : Unit → Shared → Prop} (hu : A.units + 1 < cLine) (I : Inv X pins σ H s) (g : DPut H a y v H') (ry : RelV y u) (rv : RelV v r) (h : ∀ s', Inv X pins σ H' s' → Q () s') :
    wpAny (model X.prog X.w) A (setItem (.ref a) u r) Q E s := by
  rcases g with ⟨kvs, k, e, ey, l, eH⟩ | ⟨kvs, k, b, e, ey, eb, l, eH⟩
  · subst ey eH
    obtain ⟨z, hd, vs, rel, dd⟩ := dk_of I.hok e
    have hz : vs.length ≤ sizeLine := by rw [← rel.length]; exact z
    have hl : (putK kvs k v).length ≤ sizeLine := by have := length_putK kvs k v; omega
    refine wpAny_setItem_pairs (hsz := hz) (kV_is ry) dd fun h' dd' hs => h _ ?_
    have he : ∃ q, h'.get? a = some q := let ⟨q, _, _, hq, _⟩ := dd'; ⟨q, hq⟩
    exact d_write I (by rw [e]; exact True.intro) hs he (dk_new hl hd (rel.put k rv) dd')
  · subst ey eH
    cases (show u = Value.ref b from ry)
    obtain ⟨z, hd, xs, rel, dd⟩ := dt_of I.hok e
    have hz : xs.length ≤ sizeLine := by rw [← Paired.length rel]; exact z
    have hl : (putK kvs k v).length ≤ sizeLine := by have := length_putK kvs k v; omega
    refine wpAny_setItem_heap (hsz := hz) (tupleKind_room_in1 hu) (key_of I.hok eb) dd fun h' dd' hs => h _ ?_
    obtain ⟨q, es, ep, hq, h2, h3, h4, _, h5⟩ := dd'
    refine d_write I (by rw [e]; exact True.intro) hs ⟨q, hq⟩ ⟨hl, hd, _, (rel.put k eb rv).keeps fun c ys ec => ?_, q, es, ep, hq, h2, h3, h4, h5⟩
    rw [upd_ne (ne_of ec e (fun z => nomatch z))]
    exact ec
end

section
variable {X : Cx} {pins : List (Addr × Obj)} {σ : St} {H : Hp} {s : Shared} {a : Addr} {kvs : List (Key × V)} {k : Key} {u : Value} {A : Around} {E : Value → Shared → Prop}
/-- del d[k] -/
theorem d_delItem {Q : Unit → Shared → Prop} (I : Inv X pins σ H s) (e : H a = some (.dK kvs)) (ry : RelV (kV k) u) (l : (valV kvs k).isSome = true) (h : ∀ s', Inv X pins σ (upd H a (.dK (dropK kvs k))) s' → Q () s') :
    wpAny (model X.prog X.w) A (delItem (.ref a) u) Q E s := by
  obtain ⟨z, hd, vs, rel, dd⟩ := dk_of I.hok e
  refine wpAny_delItem_slot dd.typeIs (by decide) PySem.F.slot_dict_delitem
    (call_meetsIn PySem.F.slot_dict_delitem dd.typeIs PySem.F.entry_dict_delitem (PySem.F.args_dict_delitem_2 _ _) (meets_dict_delitem_pairs (mixKind X.prog X.w) a (kV_is ry)) ⟨vs, dd, by rw [← rel.length]; exact z, by rw [← (rel.val k).isSome_eq]; exact l, fun h' dd' hs => h _ ?_⟩)
  have he : ∃ q, h'.get? a = some q := let ⟨q, _, _, hq, _⟩ := dd'; ⟨q, hq⟩
  exact d_write I (by rw [e]; exact True.intro) hs he (dk_new (Nat.le_trans (dropK_le kvs k) z) hd (rel.drop k) dd')
/-- d.pop(k[, x]), there -/
theorem d_pop {v : V} {more : List Value} {Q : Value → Shared → Prop} (I : Inv X pins σ H s) (e : H a = some (.dK kvs)) (ry : RelV (kV k) u) (l : valV kvs k = some v) (hm : more = [] ∨ ∃ x, more = [x])
    (h : ∀ w' s', Inv X pins σ (upd H a (.dK (dropK kvs k))) s' → RelV v w' → Q w' s') : wpAny (model X.prog X.w) A (call (.builtin "dict.pop") (.ref a :: u :: more)) Q E s := by
  obtain ⟨z, hd, vs, rel, dd⟩ := dk_of I.hok e
  obtain ⟨w', hw, rw'⟩ := RelO.some_of (v := v) (o := valueAt vs k) (by rw [← l]; exact rel.val k)
  have hp : (keyPart u).isSome = true := by
    cases k with
    | inl i => obtain ⟨t, q⟩ := (show ∃ t, u = Value.int i t from ry); subst q; rfl
    | inr x => obtain ⟨t, q⟩ := (show ∃ t, u = Value.str x t from ry); subst q; rfl
  have ha : argsOk "dict.pop" ⟨.ref a :: u :: more, []⟩ := by
    rcases hm with q | ⟨x, q⟩
    · subst q; exact PySem.F.args_dict_pop_2 _ _
    · subst q; exact PySem.F.args_dict_pop_3 _ _ _
  refine call_meetsIn PySem.F.slot_dict_pop dd.typeIs PySem.F.entry_dict_pop ha (meets_dict_pop_there (mixKind X.prog X.w) a (kV_is ry) more hm hp)
    ⟨vs, w', dd, by rw [← rel.length]; exact z, hw, fun h' dd' hs => h w' _ ?_ rw'⟩
  have he : ∃ q, h'.get? a = some q := let ⟨q, _, _, hq, _⟩ := dd'; ⟨q, hq⟩
  exact d_write I (by rw [e]; exact True.intro) hs he (dk_new (Nat.le_trans (dropK_le kvs k) z) hd (rel.drop k) dd')
/-- d.pop(k, x), not there -/
theorem d_popD {r : Value} {Q : Value → Shared → Prop} (I : Inv X pins σ H s) (e : H a = some (.dK kvs)) (ry : RelV (kV k) u) (l : valV kvs k = none) (h : ∀ s', Inv X pins σ H s' → Q r s') :
    wpAny (model X.prog X.w) A (call (.builtin "dict.pop") [.ref a, u, r]) Q E s := by
  obtain ⟨z, hd, vs, rel, dd⟩ := dk_of I.hok e
  have hn : valueAt vs k = none := RelO.none_of (by rw [← l]; exact rel.val k)
  have hp : (keyPart u).isSome = true := by
    cases k with
    | inl i => obtain ⟨t, q⟩ := (show ∃ t, u = Value.int i t from ry); subst q; rfl
    | inr x => obtain ⟨t, q⟩ := (show ∃ t, u = Value.str x t from ry); subst q; rfl
  exact call_meetsIn PySem.F.slot_dict_pop dd.typeIs PySem.F.entry_dict_pop (PySem.F.args_dict_pop_3 _ _ _) (meets_dict_pop_default (mixKind X.prog X.w) a (kV_is ry) hd hp r) ⟨vs, dd, hn, h _ (I.tok _)⟩
/-- d.clear() -/
theorem d_clear {Q : Value → Shared → Prop} (I : Inv X pins σ H s) (e : H a = some (.dK kvs)) (h : ∀ s', Inv X pins σ (upd H a (.dK [])) s' → Q .none s') : wpAny (model X.prog X.w) A (call (.builtin "dict.clear") [.ref a]) Q E s := by
  obtain ⟨z, hd, vs, rel, dd⟩ := dk_of I.hok e
  refine call_meetsIn PySem.F.slot_dict_clear dd.typeIs PySem.F.entry_dict_clear (PySem.F.args_dict_clear_1 _) (meets_dict_clear (mixKind X.prog X.w) a) ⟨vs, dd, by rw [← rel.length]; exact z, fun h' dd' hs => h _ ?_⟩
  have he : ∃ q, h'.get? a = some q := let ⟨q, _, _, hq, _⟩ := dd'; ⟨q, hq⟩
  exact d_write (t' := s.toks) I (by rw [e]; exact True.intro) hs he (dk_new (Nat.zero_le _) hd .nil dd')
/-- len(d) -/
theorem d_len {Q : Value → Shared → Prop} (I : Inv X pins σ H s) (e : Rd H a (.dK kvs)) (h : ∀ t s', Inv X pins σ H s' → Q (.int kvs.length t) s') : wpAny (model X.prog X.w) A (call (.builtin "len") [.ref a]) Q E s := by
  obtain ⟨z, hd, vs, rel, dd⟩ := dk_rd I.hok e
  refine call_len_dict hd dd (by rw [← rel.length]; rw [sizeLine_eq] at z; omega) ?_
  rw [← rel.length]
  exact h _ _ (I.tok _)
/-- if d -/
theorem d_truth {Q : Bool → Shared → Prop} (I : Inv X pins σ H s) (e : Rd H a (.dK kvs)) (h : ∀ s', Inv X pins σ H s' → Q (!kvs.isEmpty) s') : wpAny (model X.prog X.w) A (truthy (.ref a)) Q E s := by
  obtain ⟨z, hd, vs, rel, dd⟩ := dk_rd I.hok e
  refine wpAny_truthy_dict hd dd (by rw [← rel.length]; rw [sizeLine_eq] at z; omega) ?_
  have q : kvs.isEmpty = vs.isEmpty := by cases rel <;> rfl
  rw [← q]
  exact h _ (I.tok _)
end


/-! ### readings and rules -/
/-- the element of a subscription, not a slice -/
def NoSl (i : Expr) : Prop := ∀ ov iv, subscripted i false ov iv = operate [ov, iv] (getItem ov iv)
theorem subD_of {prog : Program} {w : World} {A : Around} {E : Value → Shared → Prop} {s : Shared} {env : Env} {value slice : Expr} {pos : Pos} {T id : String} {Q : Value → Shared → Prop}
    (hl : typeLookup (.type T) "__getitem__" = pure (some (.builtin id))) (hs : NoSl slice)
    (h : wpAny (model prog w) A (eval value env) (fun o s₁ => wpAny (model prog w) A (eval slice env) (fun i s₂ => s₂.TypeIs o T ∧ wpAny (model prog w) A (getItem o i) Q E s₂) E s₁) E s) :
    wpAny (model prog w) A (eval (.Subscript value slice pos) env) Q E s := by
  refine Subscript_ (wpAny_mono h (fun o s₁ h₁ => wpAny_mono h₁ (fun i s₂ h₂ => ?_) fun _ _ x => x) fun _ _ x => x)
  obtain ⟨hT, h₂⟩ := h₂
  unfold subscriptTail
  refine wpAny_bind ?_
  rw [getitemInPython_of_ne hT.not_modules]
  refine wpAny_bind (wpAny_specialOf hT hl ?_)
  have fin : wpAny (model prog w) A (subscripted slice false o i) (fun r s₃ => wpAny (model prog w) A (letTemporaryGo value o r >>= fun _ => pure r) Q E s₃) E s₂ := by
    rw [hs o i]
    exact wpAny_operating (wpAny_mono h₂ (fun r s₃ h₃ => wpAny_bind (wpAny_letTemporaryGo (wpAny_pure h₃))) fun _ _ x => x)
  first
    | exact wpAny_pure (wpAny_bind fin)
    | exact wpAny_bind (wpAny_pure (wpAny_bind fin))
    | exact wpAny_bind fin

theorem dict_typeIs {X : Cx} {pins : List (Addr × Obj)} {σ : St} {H : Hp} {s : Shared} {a : Addr} {y : V} {o : Option V} (I : Inv X pins σ H s) (g : DGet H a y o) : s.TypeIs (.ref a) "dict" := by
  rcases g with ⟨kvs, k, e, _, _⟩ | ⟨kvs, k, b, e, _, _, _⟩
  · obtain ⟨_, _, vs, _, dd⟩ := dk_rd I.hok e
    exact dd.typeIs
  · obtain ⟨_, _, xs, _, dd⟩ := dt_rd I.hok e
    exact dd.typeIs
theorem dict_noDict {X : Cx} {pins : List (Addr × Obj)} {σ : St} {H : Hp} {s : Shared} {a : Addr} {y : V} {o : Option V} (I : Inv X pins σ H s) (g : DGet H a y o) :
    ∀ b, Value.ref a = .ref b → ∃ ob, s.heap.get? b = some ob ∧ ob.dict = none := fun b q => by
  cases q
  rcases g with ⟨kvs, k, e, _, _⟩ | ⟨kvs, k, b, e, _, _, _⟩
  · obtain ⟨_, _, vs, _, ob, _, _, h1, h2, _⟩ := dk_rd I.hok e
    exact ⟨ob, h1, h2.2.1⟩
  · obtain ⟨_, _, xs, _, ob, _, _, h1, h2, _⟩ := dt_rd I.hok e
    exact ⟨ob, h1, h2.2.1⟩

/-- d[y] -/
def tDGet (td ty : TE) : TE := fun σ H Q => td σ H fun x H1 => ty σ H1 fun y H2 => ∃ a v, x = .ref a ∧ DGet H2 a y (some v) ∧ Q v H2
/-- y in d, y not in d -/
def tDIn (ty td : TE) : TE := fun σ H Q => ty σ H fun y H1 => td σ H1 fun x H2 => ∃ a o, x = .ref a ∧ DGet H2 a y o ∧ Q (.bl o.isSome) H2
def tDNotIn (ty td : TE) : TE := fun σ H Q => ty σ H fun y H1 => td σ H1 fun x H2 => ∃ a o, x = .ref a ∧ DGet H2 a y o ∧ Q (.bl (!o.isSome)) H2
/-- d[y] = v -/
def sDPut (td ty tv : TE) : TS := fun D σ H => tv σ H fun v H1 => td σ H1 fun x H2 => ty σ H2 fun y H3 => ∃ a H4, x = .ref a ∧ DPut H3 a y v H4 ∧ D.nx σ H4
/-- d[y] op= v -/
def sDAug (td ty tv : TE) (rd : V → V → Hp → VK → Prop) : TS := fun D σ H => td σ H fun x H1 => ty σ H1 fun y H2 => ∃ a v, x = .ref a ∧ DGet H2 a y (some v) ∧
  tv σ H2 fun y2 H3 => rd v y2 H3 fun z H4 => ∃ H5, DPut H4 a y z H5 ∧ D.nx σ H5
/-- del d[y] -/
def sDDel (td ty : TE) : TS := fun D σ H => td σ H fun x H1 => ty σ H1 fun y H2 => ∃ a kvs k, x = .ref a ∧ H2 a = some (.dK kvs) ∧ y = kV k ∧ (valV kvs k).isSome = true ∧ D.nx σ (upd H2 a (.dK (dropK kvs k)))

section
variable {X : Cx} {o i e value : Expr} {pos pos' tpos : Pos} {td ty tv : TE}
theorem pe_dget (hu : X.A.units + 1 < cLine) (ho : PE X o td) (hi : PE X i ty) (hs : NoSl i) : PE X (.Subscript o i pos) (tDGet td ty) := by
  intro pins s σ H Q I h
  refine subD_of PySem.F.slot_dict_getitem.lookup hs (thn (ho pins s σ H _ I h) fun u s1 ⟨x, H1, I1, rx, q1⟩ => thn (hi pins s1 σ H1 _ I1 q1) fun iv s2 ⟨y, H2, I2, ry, a, v, ex, g, q2⟩ => ?_)
  subst ex
  obtain rfl : u = Value.ref a := rx
  exact ⟨dict_typeIs I2 g, d_getItem hu I2 g ry fun w' s3 I3 rw' => ⟨v, H2, I3, rw', q2⟩⟩
theorem pc_din (hu : X.A.units + 1 < cLine) (hi : PE X i ty) (ho : PE X o td) : PC X .In i o (tDIn ty td) := by
  intro pins s σ H Q I h
  refine thn (hi pins s σ H _ I h) fun iv s1 ⟨y, H1, I1, ry, q1⟩ => thn (ho pins s1 σ H1 _ I1 q1) fun u s2 ⟨x, H2, I2, rx, a, ov, ex, g, q2⟩ => ?_
  subst ex
  obtain rfl : u = Value.ref a := rx
  exact d_in hu I2 g ry fun s3 I3 => ⟨.bl ov.isSome, H2, I3, rfl, q2⟩
theorem pc_dnotin (hu : X.A.units + 1 < cLine) (hi : PE X i ty) (ho : PE X o td) : PC X .NotIn i o (tDNotIn ty td) := by
  intro pins s σ H Q I h
  refine thn (hi pins s σ H _ I h) fun iv s1 ⟨y, H1, I1, ry, q1⟩ => thn (ho pins s1 σ H1 _ I1 q1) fun u s2 ⟨x, H2, I2, rx, a, ov, ex, g, q2⟩ => ?_
  subst ex
  obtain rfl : u = Value.ref a := rx
  exact d_notIn hu I2 g ry fun s3 I3 => ⟨.bl (!ov.isSome), H2, I3, rfl, q2⟩
theorem ps_dput (hu : X.A.units + 1 < cLine) (ho : PE X o td) (hi : PE X i ty) (hv : PE X value tv) (hs : swapsWith value (some (.Subscript o i pos')) pos.line X.env = pure false) :
    PS X (.Assign [.Subscript o i pos'] value pos) (sDPut td ty tv) := by
  intro pins s σ H D I h
  refine wpAny_Assign_Subscript (thn (hv pins s σ H _ I h) fun r s1 ⟨v, H1, I1, rv, q1⟩ => thn (ho pins s1 σ H1 _ I1 q1) fun u s2 ⟨x, H2, I2, rx, q2⟩ => thn (hi pins s2 σ H2 _ I2 q2) fun iv s3 ⟨y, H3, I3, ry, a, H4, ex, g, q3⟩ => ?_) hs
  subst ex
  obtain rfl : u = Value.ref a := rx
  exact d_setItem hu I3 g ry rv fun s4 I4 => ⟨σ, H4, I4, q3⟩
theorem ps_daug {op : Operator} {rd : V → V → Hp → VK → Prop} (hu : X.A.units + 1 < cLine) (ho : PE X o td) (hi : PE X i ty) (hv : PE X value tv) (hop : InOp X op rd)
    (ha : ∀ ov iv new, augStore i ov iv new = (do holding [new, ov, iv] (setItem ov iv new); release [new, ov, iv] []; pure .next)) : PS X (.AugAssign (.Subscript o i tpos) op value pos) (sDAug td ty tv rd) := by
  intro pins s σ H D I h
  refine wpAny_AugAssign_SubscriptAny (thn (ho pins s σ H _ I h) fun u s1 ⟨x, H1, I1, rx, q1⟩ => thn (hi pins s1 σ H1 _ I1 q1) fun iv s2 ⟨y, H2, I2, ry, a, v, ex, g, q2⟩ => ?_) ha
  subst ex
  obtain rfl : u = Value.ref a := rx
  refine d_getItem hu I2 g ry fun w' s3 I3 rw' => thn (hv pins s3 σ H2 _ I3 q2) fun w2 s4 ⟨y2, H3, I4, ry2, q3⟩ => thn (hop pins s4 σ H3 v y2 w' w2 _ I4 rw' ry2 q3) fun w3 s5 ⟨z, H4, I5, rz, H5, g5, q4⟩ => ?_
  exact d_setItem hu I5 g5 ry rz fun s6 I6 => ⟨σ, H5, I6, q4⟩
theorem ps_ddel (ho : PE X o td) (hi : PE X i ty) : PS X (.Delete [.Subscript o i tpos] pos) (sDDel td ty) := by
  intro pins s σ H D I h
  refine wpAny_Delete (wpAny_deleteEach_cons (wpAny_delete_Subscript (thn (ho pins s σ H _ I h) fun u s1 ⟨x, H1, I1, rx, q1⟩ => thn (hi pins s1 σ H1 _ I1 q1) fun iv s2 ⟨y, H2, I2, ry, a, kvs, k, ex, e, ey, l, q2⟩ => ?_)))
  subst ex ey
  obtain rfl : u = Value.ref a := rx
  exact d_delItem I2 e ry l fun s3 I3 => wpAny_deleteEach_nil ⟨σ, _, I3, q2⟩
end


/-! ### displays -/
theorem dk_empty {P : Program} {w : World} {H : Hp} (h : Heap) (hb : sysModules < h.objs.size) : ObjOk P w H (h.push { cls := .type "dict", data := .dict #[] }) h.objs.size (.dK []) :=
  ⟨Nat.zero_le _, beq_eq_false_iff_ne.mpr (Ne.symm (Nat.ne_of_lt hb)), [], .nil, Heap.DictOf.new h⟩
theorem dt_empty {P : Program} {w : World} {H : Hp} (h : Heap) (hb : sysModules < h.objs.size) : ObjOk P w H (h.push { cls := .type "dict", data := .dict #[] }) h.objs.size (.dT []) :=
  ⟨Nat.zero_le _, beq_eq_false_iff_ne.mpr (Ne.symm (Nat.ne_of_lt hb)), [], .nil, _, #[], 0, Heap.get?_push_size _ rfl, ⟨rfl, rfl, rfl⟩, rfl, rfl, List.nodup_nil⟩
/-- {}, to be a dict of the kind that is wanted -/
def tDNewK : TE := fun _ H Q => ∀ p, H p = none → Q (.ref p) (upd H p (.dK []))
def tDNewT : TE := fun _ H Q => ∀ p, H p = none → Q (.ref p) (upd H p (.dT []))
section
variable {X : Cx} {pos : Pos}
theorem pe_dnewK : PE X (.Dict [] [] pos) tDNewK := fun pins s σ H Q I h =>
  wpAny_Dict_empty ⟨.ref s.heap.objs.size, _, I.laid (a := s.heap.objs.size) (o := .dK []) (t' := s.toks) (fun _ _ q => Heap.get?_push_of_some _ q) (Nat.le_refl _) (dk_empty s.heap I.big), rfl, h _ (I.hok.fresh (Nat.le_refl _))⟩
theorem pe_dnewT : PE X (.Dict [] [] pos) tDNewT := fun pins s σ H Q I h =>
  wpAny_Dict_empty ⟨.ref s.heap.objs.size, _, I.laid (a := s.heap.objs.size) (o := .dT []) (t' := s.toks) (fun _ _ q => Heap.get?_push_of_some _ q) (Nat.le_refl _) (dt_empty s.heap I.big), rfl, h _ (I.hok.fresh (Nat.le_refl _))⟩
end

/-- the pairs of a display, from the left -/
def tPairs : List (TE × TE) → St → Hp → (List (V × V) → Hp → Prop) → Prop
  | [], _, H, Q => Q [] H
  | (tk, tv) :: r, σ, H, Q => tk σ H fun x H1 => tv σ H1 fun y H2 => tPairs r σ H2 fun ps H3 => Q ((x, y) :: ps) H3
abbrev VV : List (V × V) → List (Value × Value) → Prop := Paired fun p q => RelV p.1 q.1 ∧ RelV p.2 q.2
def PPs (X : Cx) (pos : Pos) (keys : List (Option Expr)) (values : List Expr) (trs : List (TE × TE)) : Prop :=
  ∀ (pins : List (Addr × Obj)) (s : Shared) (σ : St) (H : Hp) (Q : List (V × V) → Hp → Prop), Inv X pins σ H s → tPairs trs σ H Q →
    wpAny (model X.prog X.w) X.A (evalPairs (pairTrees keys values X.env pos)) (fun vs s' => ∃ ps H', Inv X pins σ H' s' ∧ VV ps vs ∧ Q ps H') X.xe s
theorem pps_nil {X : Cx} {pos : Pos} : PPs X pos [] [] [] := fun pins s σ H Q I h => pairTrees_nil_walk ⟨[], H, I, .nil, h⟩
theorem pps_cons {X : Cx} {pos : Pos} {k v : Expr} {ks : List (Option Expr)} {vs : List Expr} {tk tv : TE} {trs : List (TE × TE)} (hk : PE X k tk) (hv : PE X v tv) (hr : PPs X pos ks vs trs) :
    PPs X pos (some k :: ks) (v :: vs) ((tk, tv) :: trs) := fun pins s σ H Q I h =>
  pairTrees_cons_walk (thn (hk pins s σ H _ I h) fun u s1 ⟨x, H1, I1, rx, q1⟩ => thn (hv pins s1 σ H1 _ I1 q1) fun w2 s2 ⟨y, H2, I2, ry, q2⟩ =>
    thn (hr pins s2 σ H2 _ I2 q2) fun ws s3 ⟨ps, H3, I3, rel, q3⟩ => ⟨(x, y) :: ps, H3, I3, .cons ⟨rx, ry⟩ rel, q3⟩)

def mergeK (kvs more : List (Key × V)) : List (Key × V) := more.foldl (fun acc kv => putK acc kv.1 kv.2) kvs
theorem KV.merge : ∀ {more : List (Key × V)} {rs : List (Key × Value)} {kvs : List (Key × V)} {vs : List (Key × Value)}, KV more rs → KV kvs vs → KV (mergeK kvs more) (merged vs rs) := by
  intro more rs kvs vs r
  unfold KV at r
  induction r generalizing kvs vs with
  | nil => intro q; exact q
  | @cons p q ps qs h t ih =>
    intro r0
    have e : KV (putK kvs p.1 p.2) (stored vs q.1 q.2) := by
      have := r0.put p.1 h.2
      rw [← h.1]; exact this
    exact ih e
theorem length_mergeK : ∀ (more kvs : List (Key × V)), (mergeK kvs more).length ≤ kvs.length + more.length
  | [], kvs => by show kvs.length ≤ kvs.length + 0; omega
  | p :: r, kvs => by
    have h1 := length_mergeK r (putK kvs p.1 p.2)
    have h2 := length_putK kvs p.1 p.2
    show (mergeK (putK kvs p.1 p.2) r).length ≤ _
    rw [List.length_cons]; omega
theorem carries_of {P : Program} {w : World} : ∀ {kvs : List (Key × V)} {ws : List (Value × Value)}, VV (kvs.map fun kv => (kV kv.1, kv.2)) ws → ∃ rs, Carries (mixKind P w) ws rs ∧ KV kvs rs
  | [], _, r => by rw [List.map_nil] at r; cases r; exact ⟨[], True.intro, .nil⟩
  | p :: kvs, _, r => by
    rw [List.map_cons] at r
    cases r with
    | @cons a b as bs h t =>
      obtain ⟨rs, c, q⟩ := carries_of (P := P) (w := w) t
      obtain ⟨b1, b2⟩ := b
      exact ⟨(p.1, b2) :: rs, ⟨kV_is h.1, rfl, c⟩, .cons ⟨rfl, h.2⟩ q⟩
/-- {k: v, ..} with keys ints and texts; the new dict stands empty while the pairs are made -/
def tDisp (trs : List (TE × TE)) : TE := fun σ H Q => ∀ p, H p = none → tPairs trs σ (upd H p (.dK [])) fun ps H2 => H2 p = some (.dK []) ∧ ∃ kvs : List (Key × V), ps = kvs.map (fun kv => (kV kv.1, kv.2)) ∧ kvs.length ≤ 15 ∧ Q (.ref p) (upd H2 p (.dK (mergeK [] kvs)))
theorem pe_disp {X : Cx} {pos : Pos} {keys : List (Option Expr)} {values : List Expr} {trs : List (TE × TE)} (h : PPs X pos keys values trs) (hall : keys.all (·.isSome) = true) (hl : keys.length = values.length) (h0 : keys ≠ [])
    (h15 : keys.length ≤ 15) : PE X (.Dict keys values pos) (tDisp trs) := by
  intro pins s σ H Q I q
  have hn := I.hok.fresh (Nat.le_refl s.heap.objs.size)
  have I1 := I.laid (a := s.heap.objs.size) (o := .dK []) (h' := s.heap.push { cls := .type "dict", data := .dict #[] }) (t' := s.toks) (fun _ _ q => Heap.get?_push_of_some _ q) (Nat.le_refl _) (dk_empty s.heap I.big)
  refine wpAny_Dict_walk (knd := mixKind X.prog X.w) hall hl h0 h15 (thn (h pins _ σ _ _ I1 (q _ hn)) fun ws s2 ⟨ps, H2, I2, rel, e, kvs, ep, lk, q2⟩ => ?_)
  subst ep
  obtain ⟨rs, c, rk⟩ := carries_of (P := X.prog) (w := X.w) rel
  obtain ⟨z, hd, vs0, r0, dd⟩ := dk_of I2.hok e
  cases r0
  refine ⟨rs, c, dd, fun h' dd' hs => ⟨.ref s.heap.objs.size, _, ?_, rfl, q2⟩⟩
  have hz : (mergeK [] kvs).length ≤ sizeLine := by
    have h1 := length_mergeK kvs []
    rw [List.length_nil] at h1
    rw [sizeLine_eq]; omega
  have he : ∃ q, h'.get? s.heap.objs.size = some q := let ⟨q, _, _, hq, _⟩ := dd'; ⟨q, hq⟩
  exact d_write I2 (by rw [e]; exact True.intro) hs he (dk_new hz hd (rk.merge .nil) dd')

end L2
set_option Elab.async false
set_option linter.all false
set_option maxRecDepth 100000
set_option maxHeartbeats 4000000
/-! COMPREHENSIONS over the hand layer: one clause or two, tests, free names -/
namespace L2
open PySem PySem.Spec PyProof.Rows

/-- what a run of a block is made of -/
structure CompZ where
  cl : List (Str × Addr)
  C : Addr
  s : Shared
  H : Hp
  fp : List Addr
  pn : List (Addr × Obj)

def compCx (X : Cx) (N : List Str) (scope : Scope) (Z : CompZ) : Cx where
  prog := X.prog
  w := X.w
  K := X.K
  mg := X.mg
  base := X.base
  A := X.A
  N := N
  s₀ := Z.s
  H₀ := Z.H
  env := compEnvC scope Z.cl Z.C X.env
  outer := X.stack
  stack := X.stack
  ex := Z.fp
  fn := fun _ => false
  calm := X.calm
  pn := Z.pn
  xe := fun _ _ => False

/-- ns: the names of the scope around; N: its slots; frees: the names that the block takes from there, with their slots -/
def CompOk (ns : List (Str × NameKind)) (N : List Str) (scope : Scope) (frees : List (Str × Nat)) : Prop :=
  (∀ x ∈ scope.names, x.2 ≠ .cell ∧ (x.2 = .local → scope.names.lookup x.1 = some .local) ∧ (x.2 = .free → ns.lookup x.1 = some .cell ∨ ns.lookup x.1 = some .free)) ∧
  ∀ p ∈ frees, N[p.2]? = some p.1 ∧ scope.names.lookup p.1 = some .free ∧ (ns.lookup p.1 = some .cell ∨ ns.lookup p.1 = some .free)
instance (ns : List (Str × NameKind)) (N : List Str) (scope : Scope) (frees : List (Str × Nat)) : Decidable (CompOk ns N scope frees) := by unfold CompOk; infer_instance

/-- the block's slots at its start -/
def σC (n : Nat) (frees : List (Str × Nat)) (σ : St) : St := List.replicate n none ++ frees.map fun p => (σ[p.2]?).join

theorem clos_ok {env : Env} {scope : Scope} (hf : ∀ x ∈ scope.names, x.2 = .free → ∃ c, env.cells.lookup x.1 = some c) :
    ∃ cl, closureFor scope env = pure cl ∧ (∀ x c, cl.lookup x = some c → env.cells.lookup x = some c) ∧ ∀ x, (x, NameKind.free) ∈ scope.names → ∃ c, cl.lookup x = some c := by
  have go : ∀ (names : List (Str × NameKind)) (cs : List (Str × Addr)), (∀ x ∈ names, x.2 = .free → ∃ c, env.cells.lookup x.1 = some c) → (∀ x c, cs.lookup x = some c → env.cells.lookup x = some c) →
      ∃ cl, (forIn names cs (fun (x : Str × NameKind) (r : List (Str × Addr)) => (if (x.2 == NameKind.free) = true then (do let a ← cellOf env x.1; pure (ForInStep.yield ((x.1, a) :: r))) else pure (ForInStep.yield r) : Sem (ForInStep (List (Str × Addr)))))) = pure cl ∧
        (∀ x c, cl.lookup x = some c → env.cells.lookup x = some c) ∧ (∀ x c, cs.lookup x = some c → ∃ c', cl.lookup x = some c') ∧ ∀ x, (x, NameKind.free) ∈ names → ∃ c, cl.lookup x = some c := by
    intro names
    induction names with
    | nil => intro cs _ h; exact ⟨cs, rfl, h, fun x c e => ⟨c, e⟩, fun x hx => nomatch hx⟩
    | cons y r ih =>
      intro cs hf h
      obtain ⟨n, k⟩ := y
      have hr : ∀ x ∈ r, x.2 = .free → ∃ c, env.cells.lookup x.1 = some c := fun x hx => hf x (List.mem_cons_of_mem _ hx)
      by_cases hk : k = .free
      · subst hk
        obtain ⟨c, hc⟩ := hf (n, .free) List.mem_cons_self rfl
        have h2 : ∀ x c', ((n, c) :: cs).lookup x = some c' → env.cells.lookup x = some c' := fun x c' e => by
          rw [List.lookup_cons] at e
          cases hx : x == n with
          | true =>
            rw [hx] at e
            have : x = n := eq_of_beq hx
            cases e
            rw [this]; exact hc
          | false => rw [hx] at e; exact h x c' e
        obtain ⟨cl, e1, e2, e3, e4⟩ := ih ((n, c) :: cs) hr h2
        refine ⟨cl, ?_, e2, fun x c' e => ?_, fun x hx => ?_⟩
        · rw [List.forIn_cons]
          have : cellOf env n = pure c := by unfold cellOf; rw [hc]
          simp only [beq_self_eq_true, if_true, this, pure_bind]
          exact e1
        · cases hx : x == n with
          | true => exact e3 x c (by rw [List.lookup_cons, hx])
          | false => exact e3 x c' (by rw [List.lookup_cons, hx]; exact e)
        · rcases List.mem_cons.mp hx with z | z
          · cases z
            exact e3 n c (by rw [List.lookup_cons, beq_self_eq_true])
          · exact e4 x z
      · obtain ⟨cl, e1, e2, e3, e4⟩ := ih cs hr h
        refine ⟨cl, ?_, e2, e3, fun x hx => ?_⟩
        · rw [List.forIn_cons]
          have hb : (k == NameKind.free) = false := by simpa using hk
          simp only [hb, Bool.false_eq_true, if_false, pure_bind]
          exact e1
        · rcases List.mem_cons.mp hx with z | z
          · cases z; exact absurd rfl hk
          · exact e4 x z
  obtain ⟨cl, e1, e2, _, e4⟩ := go scope.names [] hf (fun x c e => by simp at e)
  refine ⟨cl, ?_, e2, e4⟩
  unfold closureFor
  first
    | (rw [e1]; rfl)
    | (simp only [e1]; rfl)
    | simp [e1]

theorem relabel_free {env : Env} : ∀ {names : List (Str × NameKind)} {x : Str}, names.lookup x = some .free →
    (names.map fun (n, k) => if (k == NameKind.free && env.scope.kind == .function && env.kindOf n == some .cell) then (n, NameKind.cell) else (n, k)).lookup x = some .cell ∨
    (names.map fun (n, k) => if (k == NameKind.free && env.scope.kind == .function && env.kindOf n == some .cell) then (n, NameKind.cell) else (n, k)).lookup x = some .free
  | [], _, h => by simp at h
  | (n, k) :: r, x, h => by
    have ih := @relabel_free env r x
    show List.lookup x ((if (k == NameKind.free && env.scope.kind == .function && env.kindOf n == some .cell) = true then (n, NameKind.cell) else (n, k)) :: _) = _ ∨ List.lookup x ((if (k == NameKind.free && env.scope.kind == .function && env.kindOf n == some .cell) = true then (n, NameKind.cell) else (n, k)) :: _) = _
    cases hx : x == n with
    | true =>
      simp only [List.lookup_cons, hx] at h
      cases h
      by_cases hc : (NameKind.free == NameKind.free && env.scope.kind == .function && env.kindOf n == some .cell) = true
      · rw [if_pos hc]; left; rw [List.lookup_cons, hx]
      · rw [if_neg hc]; right; rw [List.lookup_cons, hx]
    | false =>
      simp only [List.lookup_cons, hx] at h
      by_cases hc : (k == NameKind.free && env.scope.kind == .function && env.kindOf n == some .cell) = true
      · rw [if_pos hc]; simp only [List.lookup_cons, hx]; exact ih h
      · rw [if_neg hc]; simp only [List.lookup_cons, hx]; exact ih h
theorem relabel_back {env : Env} : ∀ {names : List (Str × NameKind)} {x : Str}, 
    ((names.map fun (n, k) => if (k == NameKind.free && env.scope.kind == .function && env.kindOf n == some .cell) then (n, NameKind.cell) else (n, k)).lookup x = some .cell ∨
     (names.map fun (n, k) => if (k == NameKind.free && env.scope.kind == .function && env.kindOf n == some .cell) then (n, NameKind.cell) else (n, k)).lookup x = some .free) →
    (x, NameKind.free) ∈ names ∨ (x, NameKind.cell) ∈ names
  | [], _, h => by simp at h
  | (n, k) :: r, x, h => by
    have ih := @relabel_back env r x
    replace h : List.lookup x ((if (k == NameKind.free && env.scope.kind == .function && env.kindOf n == some .cell) = true then (n, NameKind.cell) else (n, k)) :: _) = _ ∨ List.lookup x ((if (k == NameKind.free && env.scope.kind == .function && env.kindOf n == some .cell) = true then (n, NameKind.cell) else (n, k)) :: _) = _ := h
    cases hx : x == n with
    | true =>
      have e : x = n := eq_of_beq hx
      subst e
      by_cases hc : (k == NameKind.free && env.scope.kind == .function && env.kindOf x == some .cell) = true
      · have : k = .free := by
          simp only [Bool.and_eq_true] at hc
          exact eq_of_beq hc.1.1
        subst this
        exact .inl List.mem_cons_self
      · rw [if_neg hc] at h
        simp only [List.lookup_cons, hx, Option.some.injEq] at h
        rcases h with h | h
        · subst h; exact .inr List.mem_cons_self
        · subst h; exact .inl List.mem_cons_self
    | false =>
      have h' : _ := h
      by_cases hc : (k == NameKind.free && env.scope.kind == .function && env.kindOf n == some .cell) = true
      · rw [if_pos hc] at h; simp only [List.lookup_cons, hx] at h
        rcases ih h with z | z
        · exact .inl (List.mem_cons_of_mem _ z)
        · exact .inr (List.mem_cons_of_mem _ z)
      · rw [if_neg hc] at h; simp only [List.lookup_cons, hx] at h
        rcases ih h with z | z
        · exact .inl (List.mem_cons_of_mem _ z)
        · exact .inr (List.mem_cons_of_mem _ z)

section
variable {X : Cx} {pins : List (Addr × Obj)} {σ : St} {H2 : Hp} {s2 : Shared} {scope : Scope} {loc : List Str} {frees : List (Str × Nat)} {ns : List (Str × NameKind)} {N : List Str} {fp : List Addr} {cl : List (Str × Addr)}

/-- the block's own invariant at its start -/
theorem comp_start (I2 : Inv X pins σ H2 s2) (hns : X.env.scope.names = ns) (hN : X.N = N) (hk : scope.kind = .function) (ok : CompOk ns N scope frees) (f2 : ∀ b ∈ fp, FpOk X pins H2 b) (hlive : ∀ b ∈ fp, ∃ o, s2.heap.get? b = some o)
    (hc1 : ∀ x c, cl.lookup x = some c → X.env.cells.lookup x = some c) (hc2 : ∀ x, (x, NameKind.free) ∈ scope.names → ∃ c, cl.lookup x = some c)
    {C : Addr} {h4 : Heap} {tk : Nat} (hC : C = s2.heap.objs.size + 1) (hnsC : ∃ m, h4.Ns C m) (hacc : h4.get? s2.heap.objs.size = some { cls := .type "list", dict := none, data := .seq ([] : List Value).toArray })
    (hkeep : ∀ b o, s2.heap.get? b = some o → h4.get? b = some o) :
    Inv (compCx X (loc ++ frees.map (·.1)) scope ⟨cl, C, s2, H2, fp, X.pn ++ pins⟩) [] (σC loc.length frees σ) (upd H2 s2.heap.objs.size (.lst [])) { s2 with heap := h4, toks := tk } := by
  have below : ∀ {b : Addr} {o : Obj}, s2.heap.get? b = some o → b ≠ C := fun {b o} e z => by
    have := Heap.lt_size e
    rw [z, hC] at this
    exact Nat.lt_irrefl _ (Nat.lt_of_succ_lt this)
  have hl : H2 s2.heap.objs.size = none := I2.hok.fresh (Nat.le_refl _)
  have hCn : H2 C = none := I2.hok.fresh (by rw [hC]; exact Nat.le_succ _)
  have cne : ∀ x c, X.env.cells.lookup x = some c → ∃ o v, s2.heap.get? c = some o ∧ o.data = .cell v := fun x c e => by
    obtain ⟨v, o, ho, hd⟩ := I2.cell x c e
    exact ⟨o, v, ho, hd⟩
  obtain ⟨mC, hmC⟩ := hnsC
  have hCl : C ≠ s2.heap.objs.size := by rw [hC]; exact Nat.succ_ne_self _
  refine ⟨⟨I2.ok.mod, hk, I2.ok.glob, I2.ok.blt, ?_, fun x y c h1 h2 => I2.ok.inj x y c (hc1 x c h1) (hc1 y c h2), fun x hx => ?_, fun x c h => (Bool.false_ne_true h).elim, I2.ok.hd, I2.ok.frames, .inl rfl, fun b hb => ⟨?_, fun x c e z => ?_⟩, I2.bs, Nat.le_trans I2.ok.bsz I2.sz, fun b o e hb => ?_, fun b hb hfs => ?_, I2.stack, I2.stkFree⟩,
    rfl, I2.bare, ?_, ⟨mC, hmC, fun i x v h1 h2 h3 => ?_⟩, fun x c e => ?_, ?_, fun x c e => ?_, fun p hp => ?_, ?_, ?_⟩
  · show s2.heap.objs.size ≤ C
    rw [hC]; exact Nat.le_succ _
  · -- has
    have hx' : (relabel scope X.env).names.lookup x = some .cell ∨ (relabel scope X.env).names.lookup x = some .free := hx
    rcases relabel_back hx' with z | z
    · exact hc2 x z
    · exact absurd rfl (ok.1 _ z).1
  · obtain ⟨o, ho⟩ := hlive b hb
    exact below ho
  · exact (f2 b hb).2.2.2.2.1 x c (hc1 x c e) z
  · rcases (f2 b hb).2.2.2.1 with z | z
    · exact I2.ok.noex b o e z
    · exact absurd (Nat.lt_of_lt_of_le (Heap.lt_size (I2.ok.bs b o e).1) z) (Nat.lt_irrefl _)
  · rcases List.mem_cons.mp (I2.stkSub b hfs) with z | z
    · exact (f2 b hb).2.1 z
    · exact (f2 b hb).2.2.1 z
  · exact Un.laid hkeep (Nat.le_refl _) hl
  · -- loc
    have hi : ¬ i < loc.length := fun hlt => by
      unfold σC at h2
      rw [List.getElem?_append_left (by simpa using hlt), List.getElem?_replicate] at h2
      simp [hlt] at h2
    have h2' : (frees[i - loc.length]?).map (fun p => (σ[p.2]?).join) = some (some v) := by
      unfold σC at h2
      rw [List.getElem?_append_right (by simpa using hi), List.length_replicate, List.getElem?_map] at h2
      exact h2
    have h1' : (frees[i - loc.length]?).map (·.1) = some x := by
      have h1 : (loc ++ frees.map (·.1))[i]? = some x := h1
      rw [List.getElem?_append_right (by omega), List.getElem?_map] at h1
      exact h1
    cases ep : frees[i - loc.length]? with
    | none => rw [ep] at h1'; simp at h1'
    | some p =>
      rw [ep] at h1' h2'
      simp only [Option.map_some, Option.some.injEq] at h1' h2'
      obtain ⟨q1, q2, q3⟩ := ok.2 p (List.mem_of_getElem? ep)
      have hσ : σ[p.2]? = some (some v) := by
        cases e : σ[p.2]? with
        | none => rw [e] at h2'; simp at h2'
        | some o => rw [e] at h2'; simp at h2'; rw [h2']
      have vis : Vis X.env.scope p.1 := by
        show _ ∨ _
        rw [hns]; rcases q3 with z | z
        · exact .inr (.inl z)
        · exact .inr (.inr z)
      obtain ⟨m, hn, hlk⟩ := I2.loc
      obtain ⟨u, ru, lk⟩ := hlk p.2 p.1 v (by rw [hN]; exact q1) hσ vis
      refine ⟨u, ru, .inr ?_⟩
      rw [← h1']
      rcases lk with ⟨z, _⟩ | ⟨_, c, ec, hcell⟩
      · have z' : X.env.scope.names.lookup p.1 = some .local := z
        rw [hns] at z'
        rcases q3 with y | y <;> rw [z'] at y <;> cases y
      · obtain ⟨c', hc'⟩ := hc2 p.1 (PySem.mem_of_lookup q2)
        have : c' = c := by have := hc1 _ _ hc'; rw [ec] at this; exact (Option.some.inj this).symm
        subst this
        refine ⟨relabel_free q2, c', hc', ?_⟩
        obtain ⟨o, ho, hd⟩ := hcell
        exact ⟨o, hkeep _ _ ho, hd⟩
  · obtain ⟨o, v, ho, hd⟩ := cne x c (hc1 x c e)
    exact ⟨v, o, hkeep _ _ ho, hd⟩
  · show upd H2 _ _ C = none
    rw [upd_ne hCl]; exact hCn
  · obtain ⟨o, v, ho, hd⟩ := cne x c (hc1 x c e)
    have : c ≠ s2.heap.objs.size := Nat.ne_of_lt (Heap.lt_size ho)
    rw [upd_ne this]
    exact I2.freeC x c (hc1 x c e)
  · have hp' : p ∈ X.pn ++ pins := by
      rcases List.mem_append.mp hp with z | z
      · exact z
      · exact absurd z (by simp)
    obtain ⟨e, n, ne, nf, d⟩ := I2.pin p hp'
    refine ⟨hkeep _ _ e, ?_, below e, fun z => ?_, d⟩
    · rw [upd_ne (Nat.ne_of_lt (Heap.lt_size e))]; exact n
    · rcases List.mem_cons.mp (I2.stkSub p.1 z) with y | y
      · exact ne y
      · exact nf y
  · exact I2.hok.laid hkeep (Nat.le_refl _) ⟨by simp, [], _, .nil, hacc⟩
  · show (σC loc.length frees σ).length = (loc ++ frees.map (·.1)).length
    unfold σC
    simp

/-- behind the block, back in the context around -/
theorem comp_back {C : Addr} {H' : Hp} {s' : Shared} {σ' : St} {h' : Heap} {pl : List (Addr × Obj)} (I2 : Inv X pins σ H2 s2) (f2 : ∀ b ∈ fp, FpOk X pins H2 b) (hC : C = s2.heap.objs.size + 1)
    (J : Inv (compCx X N scope ⟨cl, C, s2, H2, fp, pl⟩) [] σ' H' s') (hs : Heap.SameBut C s'.heap h') : Inv X pins σ H' { s' with heap := h' } := by
  have I3 : Inv X pins σ H' s' := I2.call' (ch := fp) J.os J.base J.hok J.bare fun b hb => ⟨(f2 b hb).2.2.2.1, (f2 b hb).2.1, (f2 b hb).2.2.2.2.1, (f2 b hb).2.2.2.2.2⟩
  refine I3.turned (it := C) (t' := s'.toks) (fun b o hb e => (hs.2 b hb).trans e) J.free ?_ (.inr ?_) (fun x c e z => ?_) fun p hp z => ?_
  · intro z
    have := I2.lt
    rw [← z, hC] at this; exact Nat.lt_irrefl _ (Nat.lt_of_succ_lt this)
  · rw [hC]; exact Nat.le_trans I2.sz (Nat.le_succ _)
  · obtain ⟨v, q⟩ := I2.cell x c e
    have := q.lt
    rw [z, hC] at this; exact Nat.lt_irrefl _ (Nat.lt_of_succ_lt this)
  · have := Heap.lt_size (I2.pin p hp).1
    rw [z, hC] at this; exact Nat.lt_irrefl _ (Nat.lt_of_succ_lt this)
end
end L2

set_option Elab.async false
set_option linter.all false
set_option maxRecDepth 100000
set_option maxHeartbeats 4000000
namespace L2
open PySem PySem.Spec PyProof.Rows

abbrev TC := St → Hp → (St → Hp → Prop) → Prop
def tForJ (J : It) (g : TG) (tb : TS) (D : Ends) (σ : St) (H : Hp) : Prop := ∃ W : Nat → Nat → St → Hp → Prop, (∃ m, W 0 m σ H) ∧ ∀ i m σ H, W i m σ H →
  (J.stop i H ∧ D.nx σ H) ∨ (J.go i H ∧ ∃ N : St → Hp → Prop, (∀ σ' H', N σ' H' → ∃ m', m' < m ∧ W (i + 1) m' σ' H') ∧ ∀ x H', J.yld i H x H' → g x σ H' fun σ2 H2 => tb { D with nx := N, ct := N, bk := D.nx } σ2 H2)
def eC (Q : St → Hp → Prop) : Ends := { nx := Q, rt := fun _ _ => False }
def tBodyC (tt : TT) (tb : TC) : TS := fun D σ H => tt σ H fun b H1 => if b = true then tb σ H1 D.nx else D.nx σ H1
def tEmit (l : Addr) (te : TE) : TC := fun σ H Q => te σ H fun v H1 => ∃ xs, H1 l = some (.lst xs) ∧ xs.length < sizeLine ∧ Q σ (upd H1 l (.lst (xs ++ [v])))
def tNest (wi : TI) (g : TG) (tt : TT) (tb : TC) : TC := fun σ H Q => wi σ H fun J H1 => tForJ J g (tBodyC tt tb) (eC Q) σ H1
def tComp1 (wi : TI) (g : CompZ → TG) (tt : CompZ → TT) (te : CompZ → TE) (n : Nat) (frees : List (Str × Nat)) : TE := fun σ H Q => wi σ H fun J H1 => ∀ (Z : CompZ) (l : Addr), H1 l = none →
  tForJ J (g Z) (tBodyC (tt Z) (tEmit l (te Z))) (eC fun _ H' => Q (.ref l) H') (σC n frees σ) (upd H1 l (.lst []))
def tComp2 (wi : TI) (g : CompZ → TG) (tt : CompZ → TT) (wi2 : CompZ → TI) (g2 : CompZ → TG) (tt2 : CompZ → TT) (te : CompZ → TE) (n : Nat) (frees : List (Str × Nat)) : TE := fun σ H Q => wi σ H fun J H1 => ∀ (Z : CompZ) (l : Addr), H1 l = none →
  tForJ J (g Z) (tBodyC (tt Z) (tNest (wi2 Z) (g2 Z) (tt2 Z) (tEmit l (te Z)))) (eC fun _ H' => Q (.ref l) H') (σC n frees σ) (upd H1 l (.lst []))

def testsOf (ifs : List Expr) (env : Env) : Sem Bool := forIn ifs true fun c r => if r = true then do let ok ← isTrue c env (eval c env); pure (ForInStep.yield ok) else pure (ForInStep.yield r)
def PTs (Y : Cx) (ifs : List Expr) (t : TT) : Prop := ∀ (pins : List (Addr × Obj)) (s : Shared) (σ : St) (H : Hp) (Q : Bool → Hp → Prop), Inv Y pins σ H s → t σ H Q →
  wpAny (model Y.prog Y.w) Y.A (testsOf ifs Y.env) (TP Y pins σ Q) Y.xe s
def tAll : TT := fun _ H Q => Q true H
theorem pts_nil {Y : Cx} : PTs Y [] tAll := fun pins s σ H Q I h => wpAny_tests_nil ⟨H, I, h⟩
theorem pts_one {Y : Cx} {c : Expr} {t : TT} (hc : PT Y c t) : PTs Y [c] t := fun pins s σ H Q I h => wpAny_tests_one (hc pins s σ H Q I h)

/-- the rest of a turn, k behind it -/
def PB (Y : Cx) (tail : (Unit → Sem Fin) → Sem Fin) (r : TC) : Prop := ∀ (pins : List (Addr × Obj)) (s : Shared) (σ : St) (H : Hp) (Q : St → Hp → Prop) (Q' : Fin → Shared → Prop) (k : Unit → Sem Fin), Inv Y pins σ H s → r σ H Q →
  (∀ σ' H' s', Inv Y pins σ' H' s' → Q σ' H' → wpAny (model Y.prog Y.w) Y.A (k ()) Q' (fun _ _ => False) s') → wpAny (model Y.prog Y.w) Y.A (tail k) Q' (fun _ _ => False) s

theorem nox_of {α : Type} {M : Model} {A : Around} {t : Sem α} {Q : α → Shared → Prop} {E E' : Value → Shared → Prop} {s : Shared} (h : wpAny M A t Q E s) (hx : E = fun _ _ => False) : wpAny M A t Q E' s := by
  subst hx
  exact wpAny_mono h (fun _ _ q => q) fun _ _ z => z.elim

def tailEmit (elt : Expr) (acc : Value) (env : Env) (k : Unit → Sem Fin) : Sem Fin := (eval elt env >>= fun x => call (.builtin "list.append") [acc, x] >>= fun _ => pure ()) >>= k
theorem pb_emit {Y : Cx} {elt : Expr} {te : TE} {l : Addr} (hx : Y.xe = fun _ _ => False) (he : PE Y elt te) : PB Y (tailEmit elt (.ref l) Y.env) (tEmit l te) := by
  intro pins s σ H Q Q' k I h hk
  refine wpAny_bind (wpAny_bind (thn (nox_of (he pins s σ H _ I h) hx) fun v s1 ⟨x, H1, I1, r1, q1⟩ => ?_))
  obtain ⟨xs, e, hz, q⟩ := q1
  refine wpAny_bind (thn (nox_of (mt_append pins s1 σ H1 (.ref l) [x] (.ref l) [v] (fun _ H2 => Q σ H2) I1 rfl (.cons r1 .nil) ⟨l, xs, x, rfl, rfl, e, hz, q⟩) hx) fun u s2 ⟨y, H2, I2, r2, q2⟩ => ?_)
  exact wpAny_pure (hk σ H2 s2 I2 q2)

def turnOf (e : Expr) (d : Nat) (it acc : Value) (env : Env) (tg iter : Expr) (ifs : List Expr) (tail : (Unit → Sem Fin) → Sem Fin) : Sem Fin :=
  standAt iter.pos >>= fun _ => pyNext it >>= fun r => match r with
    | none => pure (.done .next)
    | some v => letOwnedTupleGo tg it v >>= fun _ => assign tg env v >>= fun _ => testsOf ifs env >>= fun ok =>
      if ok = true then tail (fun _ => again (.compLoop e d it acc env)) else again (.compLoop e d it acc env)

theorem turn_1 (elt tg iter : Expr) (ifs : List Expr) (scope : Scope) (pos : Pos) (it acc : Value) (env : Env) :
    compTurn (.ListComp elt [⟨tg, iter, ifs, 0⟩] scope pos) 0 it acc env = turnOf (.ListComp elt [⟨tg, iter, ifs, 0⟩] scope pos) 0 it acc env tg iter ifs (tailEmit elt acc env) := by rfl
theorem turn_2b (elt tg iter : Expr) (ifs : List Expr) (g : Comprehension) (scope : Scope) (pos : Pos) (it acc : Value) (env : Env) :
    compTurn (.ListComp elt [g, ⟨tg, iter, ifs, 0⟩] scope pos) 1 it acc env = turnOf (.ListComp elt [g, ⟨tg, iter, ifs, 0⟩] scope pos) 1 it acc env tg iter ifs (tailEmit elt acc env) := by rfl
def tailNest (e : Expr) (iter : Expr) (acc : Value) (env : Env) (k : Unit → Sem Fin) : Sem Fin :=
  eval iter env >>= fun x => standAt iter.pos >>= fun _ => foldedSetIterable iter env x >>= fun x => holding [x] (pyIter x) >>= fun i => runOwn (.compStart e 1 i acc env) env >>= fun _ => k ()
theorem turn_2a (elt tg iter tg2 iter2 : Expr) (ifs ifs2 : List Expr) (scope : Scope) (pos : Pos) (it acc : Value) (env : Env) :
    compTurn (.ListComp elt [⟨tg, iter, ifs, 0⟩, ⟨tg2, iter2, ifs2, 0⟩] scope pos) 0 it acc env = turnOf (.ListComp elt [⟨tg, iter, ifs, 0⟩, ⟨tg2, iter2, ifs2, 0⟩] scope pos) 0 it acc env tg iter ifs
      (tailNest (.ListComp elt [⟨tg, iter, ifs, 0⟩, ⟨tg2, iter2, ifs2, 0⟩] scope pos) iter2 acc env) := by rfl

section
variable {Y : Cx}
theorem comp_loop {elt tg iter : Expr} {gens : List Comprehension} {scope : Scope} {pos : Pos} {d : Nat} {ifs : List Expr} {it l : Addr} {tail : (Unit → Sem Fin) → Sem Fin} {fp : List Addr} {tn : Nat → Heap → Prop} {J : It} {g : TG} {tt : TT} {tb : TC} {pins : List (Addr × Obj)} {σ : St} {H : Hp} {s : Shared} {Q : St → Hp → Prop}
    (hx : Y.xe = fun _ _ => False) (hc : Y.calm = true) (heq : compTurn (.ListComp elt gens scope pos) d (.ref it) (.ref l) Y.env = turnOf (.ListComp elt gens scope pos) d (.ref it) (.ref l) Y.env tg iter ifs tail) (hg : PG Y tg g) (ht : PTs Y ifs tt) (hb : PB Y tail tb)
    (I : Inv Y pins σ H s) (T : Turn Y.prog Y.w Y.K tg J fp it tn) (st : tn 0 s.heap) (f2 : ∀ b ∈ fp, FpOk Y pins H b) (h : tForJ J g (tBodyC tt tb) (eC Q) σ H) :
    codeAny (model Y.prog Y.w) Y.A (.compLoop (.ListComp elt gens scope pos) d (.ref it) (.ref l) Y.env) (fun r s' => r = .ok .next ∧ ∃ σ' H', Inv Y pins σ' H' s' ∧ Q σ' H') s := by
  obtain ⟨W, ⟨m0, w0⟩, turn⟩ := h
  have stat : ∀ {H' : Hp}, (∀ b ∈ fp, H' b = none) → ∀ b ∈ fp, FpOk Y pins H' b := fun hn b hb => ⟨hn b hb, (f2 b hb).2⟩
  refine codeAny_loop rfl (fun n s' => ∃ i σ' H', Inv Y pins σ' H' s' ∧ tn i s'.heap ∧ (∀ b ∈ fp, H' b = none) ∧ W i n σ' H') (fun n s3 hI => ?_) m0 ⟨0, σ, H, I, st, fun b hb => (f2 b hb).1, w0⟩
  obtain ⟨i, σ3, H3, I3, st3, fr3, w3⟩ := hI
  show wpAny _ Y.A ((compTurn (.ListComp elt gens scope pos) d (.ref it) (.ref l) Y.env).onRaise (fun x => do noteFrame x Y.env; theTreesLotGoes x)) _ _ s3
  refine wpAny_noted ?_
  rw [heq]
  unfold turnOf
  refine wpAny_bind (wpAny_standAt (wpAny_bind ?_))
  rcases turn i n σ3 H3 w3 with ⟨stop, qn⟩ | ⟨go, N, hN, step⟩
  · refine thn (T.done Y rfl rfl rfl hc i pins s3 σ3 H3 _ I3 (stat fr3) st3 stop) fun r s4 ⟨hr, I4⟩ => ?_
    subst hr
    exact wpAny_pure ⟨rfl, σ3, H3, I4, qn⟩
  · refine thn (T.item Y rfl rfl rfl hc i pins s3 σ3 H3 _ I3 (stat fr3) st3 go) fun r s4 ⟨u, hr, h4⟩ => ?_
    subst hr
    refine wpAny_bind (thn h4 fun _ s5 ⟨x, H5, I5, r5, y5, st5, fr5⟩ => ?_)
    have I5' := I5.pinned (stat fr5) (T.obj _ _ st5)
    refine wpAny_bind (thn (nox_of (hg _ s5 σ3 H5 x u _ I5' r5 (step x H5 y5)) hx) fun _ s6 ⟨σ6, H6, I6, q6⟩ => ?_)
    refine wpAny_bind (thn (nox_of (ht _ s6 σ6 H6 _ I6 q6) hx) fun ok s7 ⟨H7, I7, q7⟩ => ?_)
    have again : ∀ {σ7 : St} {H7 : Hp} {s7 : Shared}, Inv Y (pins ++ pinsAt fp s5.heap) σ7 H7 s7 → N σ7 H7 → ∃ m, m < n ∧ ∃ i σ' H', Inv Y pins σ' H' s7 ∧ tn i s7.heap ∧ (∀ b ∈ fp, H' b = none) ∧ W i m σ' H' := fun {σ7 H7 s7} I7 n7 => by
      obtain ⟨m', hm, w7⟩ := hN σ7 H7 n7
      refine ⟨m', hm, i + 1, σ7, H7, I7.unpinned, T.keep _ _ _ st5 fun b hb o e => (I7.pin (b, o) (List.mem_append_right _ (List.mem_append_right _ (mem_pinsAt hb e)))).1, fun b hb => ?_, w7⟩
      obtain ⟨o, e, d⟩ := T.obj _ _ st5 b hb
      exact (I7.pin (b, o) (List.mem_append_right _ (List.mem_append_right _ (mem_pinsAt hb e)))).2.1
    cases ok with
    | false =>
      rw [if_neg Bool.false_ne_true] at q7 ⊢
      exact wpAny_pure ⟨rfl, again I7 q7⟩
    | true =>
      rw [if_pos rfl] at q7 ⊢
      exact nox_of (hb _ s7 σ6 H7 _ _ _ I7 q7 fun σ8 H8 s8 I8 q8 => wpAny_pure ⟨rfl, again I8 q8⟩) rfl

theorem start_1 {prog : Program} {w : World} {A : Around} {R : Result → Shared → Prop} {s : Shared} {elt target iter : Expr} {ifs : List Expr} {g : Comprehension} {scope : Scope} {pos : Pos} {it acc : Value} {env : Env}
    (h0 : codeAny (model prog w) A (.compLoop (.ListComp elt [g, ⟨target, iter, ifs, 0⟩] scope pos) 1 it acc env) R s)
    (h : wpAny (model prog w) A (pyIter it) (fun it' s' => codeAny (model prog w) A (.compLoop (.ListComp elt [g, ⟨target, iter, ifs, 0⟩] scope pos) 1 it' acc env) R s')
      (notedBy (model prog w) A env fun x s' => R (.error x) s') s) :
    codeAny (model prog w) A (.compStart (.ListComp elt [g, ⟨target, iter, ifs, 0⟩] scope pos) 1 it acc env) R s := by
  refine codeAny_of_tree ?_
  show wpAny _ _ ((compStart (.ListComp elt [g, ⟨target, iter, ifs, 0⟩] scope pos) 1 it acc env).onRaise (fun x => do noteFrame x env; standAt theWindowsPlace)) _ _ s
  refine wpAny_notedAt ?_
  unfold compStart
  show wpAny _ _ (ask >>= _) _ _ s
  refine wpAny_bind (wpAny_askSetting (wpAny_ite ?_))
  split
  · first
      | exact wpAny_bind (wpAny_pure (wpAny_pure (And.intro rfl h0)))
      | exact wpAny_pure (And.intro rfl h0)
  · first
      | exact wpAny_bind (wpAny_rule (wpAny_bind (wpAny_standAt (wpAny_bind (wpAny_mono h (fun it' s' h' => wpAny_pure (And.intro rfl h')) fun _ _ x => x)))))
      | (refine wpAny_bind (wpAny_rule ?_); show wpAny _ _ (standAt iter.pos >>= _) _ _ s; exact wpAny_bind (wpAny_standAt (wpAny_bind (wpAny_mono h (fun it' s' h' => wpAny_pure (And.intro rfl h')) fun _ _ x => x))))

theorem pb_nest {elt tg iter : Expr} {ifs : List Expr} {g1 : Comprehension} {scope : Scope} {pos : Pos} {l : Addr} {wi : TI} {g : TG} {tt : TT} {te : TE} (hx : Y.xe = fun _ _ => False) (hc : Y.calm = true) (hi : PI Y tg iter wi) (hg : PG Y tg g) (ht : PTs Y ifs tt) (he : PE Y elt te)
    (hs : ∀ x, foldedSetIterable iter Y.env x = pure x := by intro _; rfl) :
    PB Y (tailNest (.ListComp elt [g1, ⟨tg, iter, ifs, 0⟩] scope pos) iter (.ref l) Y.env) (tNest wi g tt (tEmit l te)) := by
  intro pins s σ H Q Q' k I h hk
  unfold tailNest
  refine wpAny_bind (thn (nox_of (hi pins s σ H _ I h) hx) fun v s1 h1 => ?_)
  refine wpAny_bind (wpAny_standAt (wpAny_bind (wpAny_of_eq (hs v) (wpAny_bind (wpAny_holding (thn (nox_of h1 hx) fun itv s2 h2 => ?_))))))
  obtain ⟨it, fp, tn, J, H2, e, I2, T, st2, f2, q2⟩ := h2
  subst e
  have L : codeAny (model Y.prog Y.w) Y.A (.compLoop (.ListComp elt [g1, ⟨tg, iter, ifs, 0⟩] scope pos) 1 (.ref it) (.ref l) Y.env) (fun r s' => r = .ok .next ∧ ∃ σ' H', Inv Y pins σ' H' s' ∧ Q σ' H') s2 :=
    comp_loop hx hc (turn_2b ..) hg ht (pb_emit hx he) I2 T st2 f2 q2
  refine wpAny_bind (wpAny_runOwn (codeAny_mono (start_1 L (T.self _ _ _ _ _ st2 L)) fun r s3 h3 => ?_))
  obtain ⟨rfl, σ3, H3, I3, q3⟩ := h3
  exact hk σ3 H3 s3 I3 q3
end

section
variable {X : Cx} {scope : Scope} {loc : List Str} {frees : List (Str × Nat)} {ns : List (Str × NameKind)} {N : List Str} {pos : Pos}

/-- a block's run, from the iterator on -/
theorem comp_core {e : Expr} {gs : List Comprehension} {g0 : Comprehension} {wi : TI} {tg iter : Expr} {R : CompZ → Addr → It → St → Hp → (Hp → Prop) → Prop} {use : Option (Value → Sem Unit)} {Q : Value → Shared → Prop} {newPos : Pos}
    (hcl : clausesOf e = g0 :: gs) (hg0 : g0.iter = iter) (hi : PI X tg iter wi) (hns : X.env.scope.names = ns) (hN : X.N = N) (hk : scope.kind = .function) (ok : CompOk ns N scope frees)
    (hs : ∀ x, foldedSetIterable iter X.env x = pure x) {pins : List (Addr × Obj)} {s : Shared} {σ : St} {H : Hp} {QH : Addr → Hp → Prop} (I : Inv X pins σ H s)
    (h : wi σ H fun J H1 => ∀ (Z : CompZ) (l : Addr), H1 l = none → R Z l J (σC loc.length frees σ) (upd H1 l (.lst [])) (QH l))
    (block : ∀ (Z : CompZ) (l it : Addr) (fp : List Addr) (tn : Nat → Heap → Prop) (J : It) (H4 : Hp) (s4 : Shared) (σ4 : St), Z.fp = fp → Inv (compCx X (loc ++ frees.map (·.1)) scope Z) [] σ4 H4 s4 → Turn X.prog X.w X.K tg J fp it tn → tn 0 s4.heap →
      (∀ b ∈ fp, FpOk (compCx X (loc ++ frees.map (·.1)) scope Z) [] H4 b) → R Z l J σ4 H4 (QH l) →
      codeAny (model X.prog X.w) X.A (.compStart e 0 (.ref it) (.ref l) (compEnvC scope Z.cl Z.C X.env)) (fun r s' => r = .ok .next ∧ ∃ σ' H', Inv (compCx X (loc ++ frees.map (·.1)) scope Z) [] σ' H' s' ∧ QH l H') s4)
    (fin : ∀ (l C : Addr) (H' : Hp) (s' : Shared), (∃ m, s'.heap.Ns C m) → Inv X pins σ H' s' → H' C = none → X.s₀.heap.objs.size ≤ C → C ≠ X.env.locals → (∀ x c, X.env.cells.lookup x = some c → c ≠ C) → (∀ h', Heap.SameBut C s'.heap h' → Inv X pins σ H' { s' with heap := h' }) → (∀ p ∈ X.pn ++ pins, p.1 ≠ C) → QH l H' →
      compPost (model X.prog X.w) X.A X.xe use Q (.ref l) C (.ok .next) s') :
    wpAny (model X.prog X.w) X.A (comprehension e scope X.env newPos (newList []) false (eval iter X.env) use) Q X.xe s := by
  obtain ⟨cl, hclos, hc1, hc2⟩ := clos_ok (env := X.env) (scope := scope) fun x hx hf => by
    refine I.ok.has x.1 ?_
    have := (ok.1 x hx).2.2 hf
    rw [← hns] at this
    exact this
  have hs' : ∀ x, foldedSetIterable g0.iter X.env x = pure x := by rw [hg0]; exact hs
  refine wpAny_comprehension_free hcl hs' hclos hk (fun x hx hl => (ok.1 x hx).2.1 hl) (thn (hi pins s σ H _ I h) fun v s1 h1 => thn h1 fun itv s2 h2 => ?_)
  obtain ⟨it, fp, tn, J, H2, e2, I2, T, st2, f2, q2⟩ := h2
  subst e2
  refine wpAny_newObj_type (wpAny_newFunctionEnv (fun x hx => (ok.1 x hx).1) (by intro y hy; simp at hy) (fun h₁ hns₁ hsb₁ => ?_) hk)
  dsimp only at hns₁ hsb₁ ⊢
  have hsz : (s2.heap.push { cls := .type "list", dict := none, data := .seq ([] : List Value).toArray }).objs.size = s2.heap.objs.size + 1 := Heap.size_push ..
  generalize hCeq : (s2.heap.push { cls := .type "list", dict := none, data := .seq ([] : List Value).toArray }).objs.size = C at hns₁ hsb₁ hsz ⊢
  have keep : ∀ b o, s2.heap.get? b = some o → h₁.get? b = some o := fun b o e => hsb₁.extBut b o (by rw [hsz]; exact Nat.ne_of_lt (Nat.lt_succ_of_lt (Heap.lt_size e))) (Heap.get?_push_of_some _ (Heap.get?_push_of_some _ e))
  have hacc : h₁.get? s2.heap.objs.size = some { cls := .type "list", dict := none, data := .seq ([] : List Value).toArray } :=
    hsb₁.extBut _ _ (by rw [hsz]; exact Nat.ne_of_lt (Nat.lt_succ_self _)) (Heap.get?_push_of_some _ (Heap.get?_push_size _ rfl))
  have live : ∀ b ∈ fp, ∃ o, s2.heap.get? b = some o := fun b hb => let ⟨o, ho, _⟩ := T.obj _ _ st2 b hb; ⟨o, ho⟩
  have J0 := comp_start (scope := scope) (loc := loc) (frees := frees) (tk := s2.toks + ([] : List (Str × Value)).length) I2 hns hN hk ok f2 live hc1 hc2 hsz ⟨_, hns₁⟩ hacc keep
  have hln : H2 s2.heap.objs.size = none := I2.hok.fresh (Nat.le_refl _)
  have B := block ⟨cl, C, s2, H2, fp, X.pn ++ pins⟩ s2.heap.objs.size it fp tn J _ _ _ rfl J0 T (T.keep _ _ _ st2 fun b _ o e => keep b o e) (fun b hb => by
    obtain ⟨o, ho⟩ := live b hb
    obtain ⟨z0, z1, z2, z3, z4, z5⟩ := f2 b hb
    refine ⟨?_, ?_, fun z => ?_, .inl hb, fun x c e => z4 x c (hc1 x c e), fun p hp => z5 p ?_⟩
    · rw [upd_ne (Nat.ne_of_lt (Heap.lt_size ho))]; exact z0
    · show b ≠ C
      rw [hsz]; exact Nat.ne_of_lt (Nat.lt_succ_of_lt (Heap.lt_size ho))
    · rcases List.mem_cons.mp (I2.stkSub b z) with y | y
      · exact z1 y
      · exact z2 y
    · rcases List.mem_append.mp hp with y | y
      · exact y
      · exact absurd y (by simp)) (q2 _ _ hln)
  refine codeAny_mono B fun r s' hr => ?_
  obtain ⟨rfl, σ', H', J', q'⟩ := hr
  obtain ⟨m', hm', _⟩ := J'.loc
  have hCl : C ≠ X.env.locals := fun z => by
    have := I2.lt
    rw [← z, hsz] at this; exact Nat.lt_irrefl _ (Nat.lt_of_succ_lt this)
  have hCc : ∀ x c, X.env.cells.lookup x = some c → c ≠ C := fun x c e z => by
    obtain ⟨v, q⟩ := I2.cell x c e
    have := q.lt
    rw [z, hsz] at this; exact Nat.lt_irrefl _ (Nat.lt_of_succ_lt this)
  have hCp : ∀ p ∈ X.pn ++ pins, p.1 ≠ C := fun p hp z => by
    have := Heap.lt_size (I2.pin p hp).1
    rw [z, hsz] at this; exact Nat.lt_irrefl _ (Nat.lt_of_succ_lt this)
  exact fin s2.heap.objs.size C H' s' ⟨m', hm'⟩ (by have := comp_back I2 f2 hsz J' (Heap.SameBut.refl C s'.heap); exact this) J'.free (by rw [hsz]; exact Nat.le_trans I2.sz (Nat.le_succ _)) hCl hCc (fun h' hs => comp_back I2 f2 hsz J' hs) hCp q'

theorem pe_comp1 {elt tg iter : Expr} {ifs : List Expr} {wi : TI} {g : CompZ → TG} {tt : CompZ → TT} {te : CompZ → TE} (ns : List (Str × NameKind)) (N : List Str) (loc : List Str) (frees : List (Str × Nat)) (hc : X.calm = true) (hi : PI X tg iter wi)
    (hns : X.env.scope.names = ns) (hN : X.N = N) (hk : scope.kind = .function) (ok : CompOk ns N scope frees)
    (hg : ∀ Z, PG (compCx X (loc ++ frees.map (·.1)) scope Z) tg (g Z)) (ht : ∀ Z, PTs (compCx X (loc ++ frees.map (·.1)) scope Z) ifs (tt Z)) (he : ∀ Z, PE (compCx X (loc ++ frees.map (·.1)) scope Z) elt (te Z))
    (hs : ∀ x, foldedSetIterable iter X.env x = pure x := by intro _; rfl) : PE X (.ListComp elt [⟨tg, iter, ifs, 0⟩] scope pos) (tComp1 wi g tt te loc.length frees) := by
  intro pins s σ H Q I h
  rw [eval_ListComp]
  refine comp_core (e := .ListComp elt [⟨tg, iter, ifs, 0⟩] scope pos) (g0 := ⟨tg, iter, ifs, 0⟩) (gs := []) (tg := tg) (iter := iter) (loc := loc) (R := fun Z l J σ H QH => tForJ J (g Z) (tBodyC (tt Z) (tEmit l (te Z))) (eC fun _ H' => QH H') σ H) (use := none) (QH := fun l H' => Q (.ref l) H') rfl rfl hi hns hN hk ok hs I h ?_ ?_
  · intro Z l it fp tn J H4 s4 σ4 hfp I4 T st4 f4 q4
    have L := comp_loop (Y := compCx X (loc ++ frees.map (·.1)) scope Z) rfl hc (turn_1 elt tg iter ifs scope pos (.ref it) (.ref l) _) (hg Z) (ht Z) (pb_emit rfl (he Z)) I4 T st4 f4 q4
    refine codeAny_mono (codeAny_compStart_list L (T.self _ _ _ _ _ st4 L)) fun r s' hr => ?_
    exact hr
  · intro l C H' s' hm J' hn h1 h2 h3 h4 _ q'
    obtain ⟨m, hm⟩ := hm
    exact ⟨m, hm, fun h' hs' => ⟨.ref l, H', h4 h' hs', rfl, q'⟩⟩

theorem pe_comp2 {elt tg iter tg2 iter2 : Expr} {ifs ifs2 : List Expr} {wi : TI} {g g2 : CompZ → TG} {tt tt2 : CompZ → TT} {wi2 : CompZ → TI} {te : CompZ → TE} (ns : List (Str × NameKind)) (N : List Str) (loc : List Str) (frees : List (Str × Nat)) (hc : X.calm = true) (hi : PI X tg iter wi)
    (hns : X.env.scope.names = ns) (hN : X.N = N) (hk : scope.kind = .function) (ok : CompOk ns N scope frees)
    (hg : ∀ Z, PG (compCx X (loc ++ frees.map (·.1)) scope Z) tg (g Z)) (ht : ∀ Z, PTs (compCx X (loc ++ frees.map (·.1)) scope Z) ifs (tt Z))
    (hi2 : ∀ Z, PI (compCx X (loc ++ frees.map (·.1)) scope Z) tg2 iter2 (wi2 Z)) (hg2 : ∀ Z, PG (compCx X (loc ++ frees.map (·.1)) scope Z) tg2 (g2 Z)) (ht2 : ∀ Z, PTs (compCx X (loc ++ frees.map (·.1)) scope Z) ifs2 (tt2 Z))
    (he : ∀ Z, PE (compCx X (loc ++ frees.map (·.1)) scope Z) elt (te Z))
    (hs : ∀ x, foldedSetIterable iter X.env x = pure x := by intro _; rfl) (hs2 : ∀ (Z : CompZ) x, foldedSetIterable iter2 (compCx X (loc ++ frees.map (·.1)) scope Z).env x = pure x := by intro _ _; rfl) :
    PE X (.ListComp elt [⟨tg, iter, ifs, 0⟩, ⟨tg2, iter2, ifs2, 0⟩] scope pos) (tComp2 wi g tt wi2 g2 tt2 te loc.length frees) := by
  intro pins s σ H Q I h
  rw [eval_ListComp]
  refine comp_core (e := .ListComp elt [⟨tg, iter, ifs, 0⟩, ⟨tg2, iter2, ifs2, 0⟩] scope pos) (g0 := ⟨tg, iter, ifs, 0⟩) (gs := [⟨tg2, iter2, ifs2, 0⟩]) (tg := tg) (iter := iter) (loc := loc) (R := fun Z l J σ H QH => tForJ J (g Z) (tBodyC (tt Z) (tNest (wi2 Z) (g2 Z) (tt2 Z) (tEmit l (te Z)))) (eC fun _ H' => QH H') σ H) (use := none) (QH := fun l H' => Q (.ref l) H') rfl rfl hi hns hN hk ok hs I h ?_ ?_
  · intro Z l it fp tn J H4 s4 σ4 hfp I4 T st4 f4 q4
    have L := comp_loop (Y := compCx X (loc ++ frees.map (·.1)) scope Z) rfl hc (turn_2a elt tg iter tg2 iter2 ifs ifs2 scope pos (.ref it) (.ref l) _) (hg Z) (ht Z) (pb_nest rfl hc (hi2 Z) (hg2 Z) (ht2 Z) (he Z) (hs2 Z)) I4 T st4 f4 q4
    refine codeAny_mono (codeAny_compStart_list L (T.self _ _ _ _ _ st4 L)) fun r s' hr => ?_
    exact hr
  · intro l C H' s' hm J' hn h1 h2 h3 h4 _ q'
    obtain ⟨m, hm⟩ := hm
    exact ⟨m, hm, fun h' hs' => ⟨.ref l, H', h4 h' hs', rfl, q'⟩⟩

/-- x = [..], the block's store and its end exchanged -/
theorem ps_setC1 {i : Nat} {x : Str} {pos' apos : Pos} {elt tg iter : Expr} {ifs : List Expr} {wi : TI} {g : CompZ → TG} {tt : CompZ → TT} {te : CompZ → TE} (ns : List (Str × NameKind)) (N : List Str) (loc : List Str) (frees : List (Str × Nat)) (hc : X.calm = true) (hND : X.N.Nodup) (hix : X.N[i]? = some x) (hxl : X.env.scope.names.lookup x = some .local) (hi : PI X tg iter wi)
    (hns : X.env.scope.names = ns) (hN : X.N = N) (hk : scope.kind = .function) (ok : CompOk ns N scope frees)
    (hg : ∀ Z, PG (compCx X (loc ++ frees.map (·.1)) scope Z) tg (g Z)) (ht : ∀ Z, PTs (compCx X (loc ++ frees.map (·.1)) scope Z) ifs (tt Z)) (he : ∀ Z, PE (compCx X (loc ++ frees.map (·.1)) scope Z) elt (te Z))
    (hsw : swapsWith (.ListComp elt [⟨tg, iter, ifs, 0⟩] scope pos) (some (.Name x pos')) apos.line X.env = pure true := by rfl)
    (hs : ∀ x, foldedSetIterable iter X.env x = pure x := by intro _; rfl) : PS X (.Assign [.Name x pos'] (.ListComp elt [⟨tg, iter, ifs, 0⟩] scope pos) apos) (tAsg (tComp1 wi g tt te loc.length frees) (gName i)) := by
  intro pins s σ H D I h
  rw [exec_Assign_Name_used _ _ _ _ hsw]
  refine wpAny_bind (wpAny_standAt (wpAny_bind ?_))
  show wpAny _ X.A (do let _ ← comprehension (.ListComp elt [⟨tg, iter, ifs, 0⟩] scope pos) scope X.env _ (newList []) false (eval iter X.env) (some (assign (.Name x pos') X.env))) _ _ s
  refine wpAny_bind ?_
  have key := comp_core (X := X) (e := .ListComp elt [⟨tg, iter, ifs, 0⟩] scope pos) (g0 := ⟨tg, iter, ifs, 0⟩) (gs := []) (tg := tg) (iter := iter) (newPos := firstIterPos [⟨tg, iter, ifs, 0⟩] pos) (loc := loc) (R := fun Z l J σ H QH => tForJ J (g Z) (tBodyC (tt Z) (tEmit l (te Z))) (eC fun _ H' => QH H') σ H) (use := some (assign (.Name x pos') X.env)) (QH := fun l H' => D.nx (σ.set i (some (.ref l))) H') (Q := fun _ s' => SP X pins D .next s') rfl rfl hi hns hN hk ok hs I h ?_ ?_
  · exact thn key fun _ s' hq => wpAny_pure (wpAny_pure hq)
  · intro Z l it fp tn J H4 s4 σ4 hfp I4 T st4 f4 q4
    have L := comp_loop (Y := compCx X (loc ++ frees.map (·.1)) scope Z) rfl hc (turn_1 elt tg iter ifs scope pos (.ref it) (.ref l) _) (hg Z) (ht Z) (pb_emit rfl (he Z)) I4 T st4 f4 q4
    refine codeAny_mono (codeAny_compStart_list L (T.self _ _ _ _ _ st4 L)) fun r s' hr => ?_
    exact hr
  · intro l C H' s' hm J' hn h1 h2 h3 h4 h5 q'
    obtain ⟨m, hm⟩ := hm
    show wpAny _ X.A (assign (.Name x pos') X.env (.ref l)) _ _ _
    refine wpAny_assign_Name (store_ok2 J' hND hix (.inl hxl) (v := .ref l) rfl (fun s'' I'' hsb => ?_) (.inr hxl))
    obtain ⟨a, hsb, ha⟩ := hsb
    have haC : C ≠ a := by
      rcases ha with z | z
      · rw [z]; exact h2
      · exact fun y => h3 x a z y.symm
    refine ⟨m, hm.sameBut hsb haC, fun h' hs' => ⟨_, H', ?_, q'⟩⟩
    exact I''.turned (it := C) (t' := s''.toks) (fun b o hb e => (hs'.2 b hb).trans e) hn h2 (.inr h1) h3 h5
end
end L2

set_option Elab.async false
set_option linter.all false
set_option maxRecDepth 100000
set_option maxHeartbeats 4000000
namespace PySem
open Sem (wp)
open AutoSeq1 (wpAny_loadPart')
section
variable {prog : Program} {w : World} {A : Around} {E : Value → Shared → Prop} {s : Shared}

theorem nextOf_tuple_item {it l : Addr} {i : Nat} {items} {x : Value} {Q : Value → Shared → Prop} (hit : s.heap.IsTupleIter it l i)
    (hl : s.heap.IsTuple l items) (hx : items[i]? = some x)
    (hQ : ∀ h', h'.IsTupleIter it l (i + 1) → Heap.SameBut it s.heap h' → Q x { s with heap := h' }) :
    wpAny (model prog w) A (Builtin.SmallTypes.nextOf (.ref it)) Q E s := by
  obtain ⟨o, ho, hc, hd⟩ := id hit
  obtain ⟨ol, hol, _, nl, hdl⟩ := hl
  unfold Builtin.SmallTypes.nextOf
  refine wpAny_bind (wpAny_callSpecial?_slot (name := Str.ofString "__next__") hit.typeIs F.slot_tuple_iterator_next
    (wpAny_call_entry F.slot_tuple_iterator_next hit.typeIs F.entry_tuple_iterator_next ?_ (F.args_tuple_iterator_next_1 _)))
  show wpAny _ _ (field (.ref it) 0 >>= _) _ _ s
  refine wpAny_bind (wpAny_field ho hd (x := .ref l) rfl ?_)
  show wpAny _ _ (if (Value.ref l == Value.none) = true then _ else _) _ _ s
  rw [if_neg (show ¬ ((Value.ref l == Value.none) = true) from Bool.false_ne_true)]
  show wpAny _ _ (field (.ref it) 1 >>= _) _ _ s
  refine wpAny_bind (wpAny_field ho hd (x := .int i 0) rfl ?_)
  show wpAny _ _ (seqItems? (.ref l) >>= _) _ _ s
  refine wpAny_bind (wpAny_seqItems hol hdl ?_)
  simp only [Int.toNat_natCast, hx]
  refine wpAny_bind (wpAny_setField ho hd (by simp) (wpAny_pure ⟨x, rfl, wpAny_pure (hQ _ ?_ (Heap.SameBut.update ..))⟩))
  exact ⟨_, Heap.get?_update_self _ ho (Obj.isFreed_of_fields (Obj.data_mapFields hd _)), (Obj.cls_mapFields ..).trans hc, by
    rw [Obj.data_mapFields hd]; simp [rawInt]⟩

theorem nextOf_tuple_end {it l : Addr} {i : Nat} {items} {Q : Value → Shared → Prop} (hh : A.handled = none)
    (hit : s.heap.IsTupleIter it l i) (hl : s.heap.IsTuple l items) (hx : items[i]? = none)
    (hE : ∀ h' e, Heap.ExtBut it s.heap h' → (∃ o, h'.get? e = some o ∧ o.cls = .type "StopIteration") → E (.ref e) { s with heap := h' }) :
    wpAny (model prog w) A (Builtin.SmallTypes.nextOf (.ref it)) Q E s := by
  obtain ⟨o, ho, hc, hd⟩ := id hit
  obtain ⟨ol, hol, _, nl, hdl⟩ := hl
  unfold Builtin.SmallTypes.nextOf
  refine wpAny_bind (wpAny_callSpecial?_slot (name := Str.ofString "__next__") hit.typeIs F.slot_tuple_iterator_next
    (wpAny_call_entry F.slot_tuple_iterator_next hit.typeIs F.entry_tuple_iterator_next ?_ (F.args_tuple_iterator_next_1 _)))
  show wpAny _ _ (field (.ref it) 0 >>= _) _ _ s
  refine wpAny_bind (wpAny_field ho hd (x := .ref l) rfl ?_)
  show wpAny _ _ (if (Value.ref l == Value.none) = true then _ else _) _ _ s
  rw [if_neg (show ¬ ((Value.ref l == Value.none) = true) from Bool.false_ne_true)]
  show wpAny _ _ (field (.ref it) 1 >>= _) _ _ s
  refine wpAny_bind (wpAny_field ho hd (x := .int i 0) rfl ?_)
  show wpAny _ _ (seqItems? (.ref l) >>= _) _ _ s
  refine wpAny_bind (wpAny_seqItems hol hdl ?_)
  simp only [Int.toNat_natCast, hx]
  refine wpAny_bind (wpAny_rule (wpAny_bind (wpAny_setField ho hd (by simp) ?_)))
  show wpAny _ _ (newExc (.type "StopIteration") [] >>= _) _ _ _
  refine wpAny_bind ?_
  simp only [newExc, newTuple]
  refine wpAny_bind (wpAny_newObj_type ?_ (by size_fits))
  refine wpAny_bind (m := firstArgMember _ _) (wpAny_of_eq (a := Value.none) (by first | rfl | (simp only [firstArgMember]; rfl)) ?_)
  refine wpAny_newObj_type ?_ (by size_fits)
  simp only [raiseNew]
  refine wpAny_bind (wpAny_handled ?_)
  first | rw [show A.in1.handled = none from hh] | rw [hh]
  refine wpAny_bind (wpAny_pure (wpAny_throw ?_))
  exact hE _ _ (((Heap.SameBut.update ..).extBut.push _).push _) ⟨_, Heap.get?_push_size _ rfl, rfl⟩
end

theorem Draws.tuple {prog : Program} {w : World} {A : Around} (hh : A.handled = none) (it l : Addr) (hne : l ≠ it) (items : Array Value) :
    Draws prog w A it [it, l] items.size (fun i v => items[i]? = some v) (fun i h => h.IsTupleIter it l i ∧ h.IsTuple l items) where
  live := fun _ _ st => let ⟨o, ho, _⟩ := st.1; ⟨o, ho⟩
  frame := fun _ _ _ st hk => ⟨st.1.at fun o e => hk it (by simp) o e, let ⟨o, ho, r⟩ := st.2; ⟨o, hk l (by simp) o ho, r⟩⟩
  item := fun i s Q E hi st hQ => by
    refine nextOf_tuple_item st.1 st.2 (x := items[i]) (by simp [hi]) fun h' hit' hs' => ?_
    exact hQ _ h' s.toks (by simp [hi]) ⟨hit', let ⟨o, ho, r⟩ := st.2; ⟨o, (hs'.2 l hne).trans ho, r⟩⟩ hs'
  done := fun s Q E st hE => nextOf_tuple_end hh st.1 st.2 (by simp) hE

theorem meets_enumerate_newT (l : Addr) (items : Array Value) (n : Nat) (dct : Option Addr) (sl : Array (Option Value)) :
    Meets (Builtin.«enumerate.__new__» ⟨[.type "enumerate", .ref l], []⟩) (fun _ R s => s.heap.get? l = some { cls := .type "tuple", dict := dct, data := .seq items n, slots := sl } ∧
      R (.ok (.ret (.ref (s.heap.push { cls := .type "tuple_iterator", data := .fields #[.ref l, .int 0 0] }).objs.size)))
        { s with heap := (s.heap.push { cls := .type "tuple_iterator", data := .fields #[.ref l, .int 0 0] }).push { cls := .type "enumerate", data := .fields #[.none, .bool false, .ref s.heap.objs.size, rawInt 0, .none, .none] } }) :=
  .of_wp fun prog w A R s h => by
    obtain ⟨hp, g, d, tk, os⟩ := s; obtain ⟨hl, h⟩ := h
    have hsub := sub_enumerate
    have hL : Heap.IsTuple (Shared.heap ⟨hp, g, d, tk, os⟩) l items := ⟨_, hl, rfl, n, rfl⟩
    wp_walk using wpAny_loadPart' hl
    refine wpAny_stack_any fun st => wpAny_pure ?_
    split
    · rename_i c _ _ _ _ _
      cases (c == Value.type "enumerate")
      · wp_walk using wpAny_loadPart' hl, wpAny_pyIter_tuple hL
        exact ⟨_, rfl, h⟩
      · wp_walk using wpAny_loadPart' hl, wpAny_pyIter_tuple hL
        exact ⟨_, rfl, h⟩
    · wp_walk using wpAny_loadPart' hl, wpAny_pyIter_tuple hL
      exact ⟨_, rfl, h⟩

section
variable {prog : Program} {w : World} {A : Around} {E : Value → Shared → Prop} {s : Shared}
theorem call_enumerate_tuple {l : Addr} {items : Array Value} {Q : Value → Shared → Prop} (hL : s.heap.IsTuple l items)
    (h : ∀ h', IsEnum h' (s.heap.objs.size + 1) s.heap.objs.size 0 .none → h'.IsTupleIter s.heap.objs.size l 0 → h'.objs.size = s.heap.objs.size + 2 →
      (∀ b o, s.heap.get? b = some o → h'.get? b = some o) → Q (.ref (s.heap.objs.size + 1)) { s with heap := h' }) :
    wpAny (model prog w) A (call (.type "enumerate") [.ref l]) Q E s := by
  obtain ⟨⟨c, dct, dt, sl⟩, hl, hc, n, hd⟩ := hL
  replace hc : c = .type "tuple" := hc
  replace hd : dt = .seq items n := hd
  subst hc hd
  refine callType_new F.called_enumerate (by decide) (F.typeCall_enumerate_1 _) (F.newCall_enumerate_1 _) (fun obj => F.args_object_init_2 obj _) F.entry_enumerate_new
    (meets_enumerate_newT l items n dct sl) ⟨hl, ?_⟩
  have hz : (s.heap.push { cls := .type "tuple_iterator", data := .fields #[.ref l, .int 0 0] }).objs.size = s.heap.objs.size + 1 := Heap.size_push ..
  show _ ∧ _
  rw [hz]
  have he : IsEnum ((s.heap.push { cls := .type "tuple_iterator", data := .fields #[.ref l, .int 0 0] }).push
      { cls := .type "enumerate", data := .fields #[.none, .bool false, .ref s.heap.objs.size, rawInt 0, .none, .none] }) (s.heap.objs.size + 1) s.heap.objs.size 0 .none := by
    have := Heap.get?_push_size (s.heap.push { cls := .type "tuple_iterator", data := .fields #[.ref l, .int 0 0] })
      (o := { cls := .type "enumerate", data := .fields #[.none, .bool false, .ref s.heap.objs.size, rawInt 0, .none, .none] }) rfl
    rw [hz] at this; exact this
  refine ⟨⟨_, he, rfl⟩, h _ he ⟨_, Heap.get?_push_of_some _ (Heap.get?_push_size _ rfl), rfl, rfl⟩ (by rw [Heap.size_push, hz]) fun b o x => Heap.get?_push_of_some _ (Heap.get?_push_of_some _ x)⟩
end
end PySem

set_option Elab.async false
set_option linter.all false
set_option maxRecDepth 100000
set_option maxHeartbeats 4000000
namespace PySem
open Sem (wp)
open Builtin
open AutoSeq1 (wpAny_loadPart')
namespace F
theorem lk_list_keys : typeLookup (.type "list") "keys" = pure none := by rw [typeLookup_type, builtinLookup_eq_fast]; kernel_rfl
theorem entry_dict_update_loop : entryFor table "dict.update.loop" = some Builtin.«dict.update.loop» := entryFor_of_tree (by kernel_rfl)
theorem plain_dict_update_loop : plainId "dict.update.loop" = true := by decide +kernel
theorem noFill_tuple_mul : fillsNumberSlot (.type "tuple") "mul" = pure false :=
  fillsNumberSlot_seq (id := "tuple.__mul__") (r := some (.builtin "tuple.__rmul__")) F.slot_tuple_mul.lookup (by decide +kernel) F.slot_tuple_rmul.lookup (by decide +kernel)
theorem repeat_tuple : seqRepeat? (.type "tuple") = pure (some (.builtin "tuple.__mul__")) := by
  unfold seqRepeat?
  rw [seqSlot_of (T := "tuple") (name := "__mul__") (id := "tuple.__mul__") F.slot_tuple_mul.lookup (by decide +kernel), seqSlot_of (T := "tuple") (name := "__rmul__") (id := "tuple.__rmul__") F.slot_tuple_rmul.lookup (by decide +kernel)]
  rfl
end F
theorem int___rmul___int_tuple (a : Int) (t : Tok) (l : Addr) (items : Array Value) (n : Nat) (dd : Option Addr) (sl : Array (Option Value)) :
    Meets (Builtin.«int.__rmul__» ⟨[.int a t, .ref l], []⟩) (fun _ R s => s.heap.get? l = some { cls := .type "tuple", dict := dd, data := .seq items n, slots := sl } ∧ R (.ok (.ret Value.notImplemented)) s) :=
  .of_wp fun prog w A R s h => by obtain ⟨hp, g, d, tk, os⟩ := s; obtain ⟨hl, h⟩ := h; wp_walk; exact ⟨_, rfl, h⟩
/-- t * n, n = 1 or t empty: t itself -/
theorem tuple_mul1 (l : Addr) (items : Array Value) (n : Nat) (dd : Option Addr) (sl : Array (Option Value)) (x : Int) (u : Tok) (hc0 : (decide (x < -(2 ^ 63)) || decide (x ≥ 2 ^ 63)) = false) (hc1 : (items.isEmpty || x == 1) = true) :
    Meets (Builtin.«tuple.__mul__» ⟨[.ref l, .int x u], []⟩) (fun _ R s => s.heap.get? l = some { cls := .type "tuple", dict := dd, data := .seq items n, slots := sl } ∧ R (.ok (.ret (Value.ref l))) s) :=
  .of_wp fun prog w A R s h => by
    obtain ⟨hp, g, d, tk, os⟩ := s; obtain ⟨hl, h⟩ := h
    have f1 := AutoSeq1.idx_int; have f2 := AutoSeq1.sub_tuple_tuple
    wp_walk using wpAny_loadPart' hl
    refine wpAny_ite_false (decide_eq_false (by rw [hc0]; decide)) ?_
    wp_walk using wpAny_loadPart' hl
    exact ⟨_, rfl, h⟩
theorem tuple_mul2 (l : Addr) (items : Array Value) (n : Nat) (dd : Option Addr) (sl : Array (Option Value)) (x : Int) (u : Tok) (hc0 : (decide (x < -(2 ^ 63)) || decide (x ≥ 2 ^ 63)) = false) (hc1 : (items.isEmpty || x == 1) = false) (hc2 : (decide (x ≤ 0) || items.isEmpty) = true) :
    Meets (Builtin.«tuple.__mul__» ⟨[.ref l, .int x u], []⟩) (fun _ R s => s.heap.get? l = some { cls := .type "tuple", dict := dd, data := .seq items n, slots := sl } ∧ R (.ok (.ret (Value.ref s.heap.objs.size))) { s with heap := s.heap.push { cls := .type "tuple", data := .seq #[] } }) :=
  .of_wp fun prog w A R s h => by
    obtain ⟨hp, g, d, tk, os⟩ := s; obtain ⟨hl, h⟩ := h
    have f1 := AutoSeq1.idx_int; have f2 := AutoSeq1.sub_tuple_tuple
    wp_walk using wpAny_loadPart' hl
    refine wpAny_ite_false (decide_eq_false (by rw [hc0]; decide)) ?_
    wp_walk using wpAny_loadPart' hl
    exact ⟨_, rfl, h⟩
theorem tuple_mul3 (l : Addr) (items : Array Value) (n : Nat) (dd : Option Addr) (sl : Array (Option Value)) (x : Int) (u : Tok) (hc0 : (decide (x < -(2 ^ 63)) || decide (x ≥ 2 ^ 63)) = false) (hc1 : (items.isEmpty || x == 1) = false) (hc2 : (decide (x ≤ 0) || items.isEmpty) = false)
    (hc3 : ¬ (items.size : Int) * x > (2 ^ 63 - 1) / 8) (hc4 : Tuple.tupleTooMany ((items.size : Int) * x) = false) (hsz : (List.foldl (fun x1 x2 => x1 ++ x2) #[] (List.replicate x.toNat items)).size ≤ sizeLine) :
    Meets (Builtin.«tuple.__mul__» ⟨[.ref l, .int x u], []⟩) (fun _ R s => s.heap.get? l = some { cls := .type "tuple", dict := dd, data := .seq items n, slots := sl } ∧ R (.ok (.ret (Value.ref s.heap.objs.size))) { s with heap := s.heap.push { cls := .type "tuple", data := .seq (List.foldl (fun x1 x2 => x1 ++ x2) #[] (List.replicate x.toNat items)) } }) :=
  .of_wp fun prog w A R s h => by
    obtain ⟨hp, g, d, tk, os⟩ := s; obtain ⟨hl, h⟩ := h
    have f1 := AutoSeq1.idx_int; have f2 := AutoSeq1.sub_tuple_tuple
    wp_walk using wpAny_loadPart' hl
    refine wpAny_ite_false (decide_eq_false (by rw [hc0]; decide)) ?_
    wp_walk using wpAny_loadPart' hl
    refine wpAny_ite_false (decide_eq_false hc3) ?_
    refine wpAny_ite_false (decide_eq_false (by rw [hc4]; decide)) ?_
    dsimp only
    wp_walk using wpAny_loadPart' hl
    exact ⟨_, rfl, h⟩
section
variable {prog : Program} {w : World} {A : Around} {E : Value → Shared → Prop} {s : Shared} {a : Addr} {xs : Array Value} {k : Nat} {sl : Array (Option Value)}
theorem keys_miss_list {Q : Option Value → Shared → Prop} (hx : s.heap.get? a = some { cls := .type "list", dict := none, data := .seq xs k, slots := sl }) (hA : A.handled = none)
    (h : ∀ h' tk, (∀ b o, s.heap.get? b = some o → h'.get? b = some o) → Q none { s with heap := h', toks := tk }) : wpAny (model prog w) A (getAttr? (.ref a) "keys") Q E s := by
  obtain ⟨hp, g, d, tk, os⟩ := s
  have hT : ∀ tk', (⟨hp, g, d, tk', os⟩ : Shared).TypeIs (.ref a) "list" := fun _ => ⟨_, hx, rfl⟩
  have f1 := sub_AttributeError
  have f3 := F.slot_list_getattribute.lookup
  have f4 := F.slot_list_getattribute.bind (.ref a)
  have f5 := am_list_getattr_none
  unfold getAttr? getAttrBy? getAttrBy
  repeat (any_goals (first | assumption | exact hT _ | ((with_reducible show wpAny _ _ (call (Value.builtin "list.__getattribute__") _ _) _ _ _); refine call_meets F.slot_list_getattribute (hT _) am_entry_list_getattribute (F.args_list_getattribute_2 _ _) (meets_getattribute_miss_list a xs k sl "keys" _ F.lk_list_keys (by decide +kernel) (by decide +kernel)) ⟨hx, hA, fun h' tk' e hx' => ?_⟩) | wp_step))
  obtain ⟨t', u', he⟩ := hx'.there
  show wpAny _ _ (getattributeRaised _ _ _ _ _ _ _) _ _ _
  unfold getattributeRaised
  repeat (any_goals (first | assumption | wp_step))
  exact h _ _ hx'.keeps
end
end PySem

set_option Elab.async false
set_option linter.all false
set_option maxRecDepth 100000
set_option maxHeartbeats 4000000
namespace PySem
open Sem (wp)
open Builtin
open AutoSeq1 (wpAny_loadPart')
section
variable {prog : Program} {w : World} {K : Type} [DecidableEq K] {knd : KeyKind prog w K} {A : Around} {E : Value → Shared → Prop} {R : Result → Shared → Prop}

/-- the i-th item of the list is a pair of the i-th key and value -/
def PairsAt (knd : KeyKind prog w K) (h : Heap) (items : Array Value) (kvs : List (K × Value)) (d it : Addr) : Prop :=
  ∀ (j : Nat) (v : Value), items[j]? = some v → ∃ (p : Addr) (key val : Value) (k : K), v = .ref p ∧ h.IsTuple p #[key, val] ∧ knd.is k key = true ∧ kvs[j]? = some (k, val) ∧ p ≠ d ∧ p ≠ it

theorem stored_take {kvs : List (K × Value)} {i : Nat} {k : K} {v : Value} (hn : (kvs.map (·.1)).Nodup) (hi : kvs[i]? = some (k, v)) : stored (kvs.take i) k v = kvs.take (i + 1) := by
  have hlt : i < kvs.length := (List.getElem?_eq_some_iff.mp hi).1
  have hge : kvs[i] = (k, v) := (List.getElem?_eq_some_iff.mp hi).2
  have hnot : ¬ ((kvs.take i).any fun kv => decide (kv.1 = k)) = true := by
    intro h
    obtain ⟨x, hx, hk⟩ := List.any_eq_true.mp h
    have hk' : x.1 = k := of_decide_eq_true hk
    obtain ⟨j, hj, e⟩ := List.getElem_of_mem hx
    rw [List.length_take] at hj
    have hj2 : j < kvs.length := by omega
    have e2 : kvs[j] = x := by rw [← e, List.getElem_take]
    have := (List.getElem_inj (h₀ := by rw [List.length_map]; exact hj2) (h₁ := by rw [List.length_map]; exact hlt) hn).mp (by rw [List.getElem_map, List.getElem_map, e2, hge]; exact hk')
    omega
  rw [stored, if_neg hnot, List.take_succ, hi]
  rfl

theorem dict_pairs_loop {d it l : Addr} {items : Array Value} {kvs : List (K × Value)} (hh : A.handled = none) (hdi : d ≠ it) (hdl : d ≠ l) (hli : l ≠ it) (hlen : kvs.length = items.size) (hn : (kvs.map (·.1)).Nodup) (hsz : items.size ≤ sizeLine) :
    ∀ (n i : Nat) (s : Shared), items.size - i = n → i ≤ items.size → s.heap.IsListIter it l i → s.heap.IsList l items → PairsAt knd s.heap items kvs d it → s.heap.DictOf knd d (kvs.take i) →
      (∀ h' tk, h'.DictOf knd d kvs → (∀ b o, b ≠ d → b ≠ it → s.heap.get? b = some o → h'.get? b = some o) → R (.ok (.ret .none)) { s with heap := h', toks := tk }) →
      codeAny (model prog w) A (.builtin "dict.update.loop" ⟨[.ref d, .ref it, rawInt i, .none], []⟩) R s := by
  intro n
  induction n with
  | zero =>
    intro i s hk hi hit hl hP hD hR
    have hin : i = items.size := by omega
    subst hin
    refine codeAny_builtin F.entry_dict_update_loop ?_
    rw [Around.under_plainId F.plain_dict_update_loop _]
    unfold Builtin.«dict.update.loop»
    show wpAny _ A.in1 (pyNext (.ref it) >>= _) _ _ s
    refine wpAny_bind (wpAny_pyNext_list_end (by simp [hh]) hit hl (by simp) fun h' hs' => ?_)
    show wpAny _ _ (Builtin.Dict.addKeywords d [] >>= _) _ _ _
    refine wpAny_bind (wpAny_pure (wpAny_pure ?_))
    refine hR h' _ ?_ fun b o _ hb e => hs' b o hb e
    rw [List.take_of_length_le (by omega)] at hD
    exact hD.extBut hs' hdi
  | succ k ih =>
    intro i s hk hi hit hl hP hD hR
    have hlt : i < items.size := by omega
    obtain ⟨p, key, val, kk, hv, ht, hkk, hkv, hpd, hpi⟩ := hP i items[i] (by simp [hlt])
    refine codeAny_builtin F.entry_dict_update_loop ?_
    rw [Around.under_plainId F.plain_dict_update_loop _]
    unfold Builtin.«dict.update.loop»
    show wpAny _ A.in1 (pyNext (.ref it) >>= _) _ _ s
    refine wpAny_bind (wpAny_pyNext_list_item hit hl (x := items[i]) (by simp [hlt]) fun h' hit' hs' => ?_)
    rw [hv]
    dsimp only
    refine wpAny_bind (wpAny_holding ?_)
    have ht' : h'.IsTuple p #[key, val] := let ⟨o, ho, r⟩ := ht; ⟨o, (hs'.2 p hpi).trans ho, r⟩
    refine wpAny_bind (wpAny_tryCatch ?_)
    unfold Builtin.Dict.pairItems
    obtain ⟨o, ho, hc, nn, hd⟩ := id ht'
    refine wpAny_bind (wpAny_typeOf (s := { s with heap := h' }) (T := "tuple") ⟨o, ho, hc⟩ ?_)
    rw [if_pos (by decide)]
    refine wpAny_bind (wpAny_seqItems ho hd (wpAny_pure ?_))
    show wpAny _ _ (holding [key, val] (dictSet d key val)) _ _ _
    refine wpAny_holding (wpAny_dictSet_pairs (hsz := by rw [List.length_take]; omega) hkk (hD.sameBut hs' hdi) fun h'' hD'' hs'' => ?_)
    rw [stored_take hn hkv] at hD''
    refine wpAny_pure ⟨plainId_quiet F.plain_dict_update_loop _, ?_⟩
    refine ih (i + 1) _ (by omega) hlt (hit'.extBut hs''.extBut hdi.symm) ((hl.extBut hs'.extBut hli).extBut hs''.extBut hdl.symm) (fun j v e => ?_) hD'' fun h3 tk3 hD3 hk3 => ?_
    · obtain ⟨p, key, val, kk, hv, ht, hkk, hkv, hpd, hpi⟩ := hP j v e
      exact ⟨p, key, val, kk, hv, (let ⟨o, ho, r⟩ := ht; ⟨o, (hs''.2 p hpd).trans ((hs'.2 p hpi).trans ho), r⟩), hkk, hkv, hpd, hpi⟩
    · exact hR h3 tk3 hD3 fun b o hbd hbi e => hk3 b o hbd hbi ((hs''.2 b hbd).trans ((hs'.2 b hbi).trans e))

theorem call_dict_pairs {l : Addr} {items : Array Value} {kvs : List (K × Value)} {s : Shared} {Q : Value → Shared → Prop} {n : Nat} {sl : Array (Option Value)} (hh : A.handled = none) (hlen : kvs.length = items.size) (hn : (kvs.map (·.1)).Nodup) (hsz : items.size ≤ sizeLine)
    (hx : s.heap.get? l = some { cls := .type "list", dict := none, data := .seq items n, slots := sl })
    (hP : ∀ (j : Nat) (v : Value), items[j]? = some v → ∃ (p : Addr) (key val : Value) (k : K), v = .ref p ∧ s.heap.IsTuple p #[key, val] ∧ knd.is k key = true ∧ kvs[j]? = some (k, val))
    (h : ∀ h' tk, h'.DictOf knd s.heap.objs.size kvs → (∀ b o, s.heap.get? b = some o → h'.get? b = some o) → Q (.ref s.heap.objs.size) { s with heap := h', toks := tk }) :
    wpAny (model prog w) A (call (.type "dict") [.ref l]) Q E s := by
  refine callType_codes (Q₁ := fun obj s₁ => obj = .ref s.heap.objs.size ∧ s₁ = { s with heap := s.heap.push { cls := .type "dict", data := .dict #[] } }) F.kt_called_dict (F.kt_typeCall_dict_1 _) F.entry_dict_init (kt_code_dict_new _ ⟨rfl, rfl⟩) ?_
  rintro obj s₁ ⟨rfl, rfl⟩
  have hnew : (s.heap.push { cls := .type "dict", data := .dict #[] }).DictOf knd s.heap.objs.size [] := Heap.DictOf.new s.heap
  have hx' : (s.heap.push { cls := .type "dict", data := .dict #[] }).get? l = some { cls := .type "list", dict := none, data := .seq items n, slots := sl } := Heap.get?_push_of_some _ hx
  have hlt : l < s.heap.objs.size := Heap.lt_size hx
  refine ⟨hnew.typeIs, F.args_dict_init_2 _ _, ?_⟩
  unfold Builtin.«dict.__init__»
  refine wpAny_bind ?_
  unfold Builtin.Dict.selfAndRest
  refine wpAny_bind (wpAny_notOrdered_dict hnew.typeIs ?_)
  show wpAny _ _ (pure (s.heap.objs.size, [Value.ref l])) _ _ _
  refine wpAny_pure ?_
  show wpAny _ _ (Builtin.Dict.updateFrom "dict.__init__" s.heap.objs.size (.ref l) [] .none) _ _ _
  unfold Builtin.Dict.updateFrom
  refine wpAny_bind (wpAny_typeOf (T := "list") ⟨_, hx', rfl⟩ ?_)
  rw [if_pos (by decide)]
  refine wpAny_bind (keys_miss_list hx' (by simp [hh]) fun h1 tk1 hk1 => ?_)
  rw [if_pos (by rfl)]
  refine wpAny_bind (wpAny_rule ?_)
  have hx1 : h1.get? l = some { cls := .type "list", dict := none, data := .seq items n, slots := sl } := hk1 _ _ hx'
  have hl1 : h1.IsList l items := ⟨_, hx1, rfl, n, rfl⟩
  refine wpAny_bind (wpAny_pyIter_list hl1 ?_)
  have hd1 : h1.DictOf knd s.heap.objs.size [] := let ⟨o, es, ep, ho, r⟩ := hnew; ⟨o, es, ep, hk1 _ _ ho, r⟩
  have hdlt : s.heap.objs.size < h1.objs.size := let ⟨o, es, ep, ho, r⟩ := hd1; Heap.lt_size ho
  refine wpAny_pure ⟨plainId_quiet F.plain_dict_update_loop _, ?_⟩
  refine dict_pairs_loop (knd := knd) (kvs := kvs) (l := l) (items := items) (by simp [hh]) (Nat.ne_of_lt hdlt) (Nat.ne_of_gt hlt) (Nat.ne_of_lt (Nat.lt_trans hlt hdlt)) hlen hn hsz items.size 0 _ rfl (Nat.zero_le _) ⟨_, Heap.get?_push_size _ rfl, rfl, rfl⟩ (hl1.push _) (fun j v e => ?_) (by simpa using hd1.push _) fun h2 tk2 hD2 hk2 => ?_
  · obtain ⟨p, key, val, kk, hv, ht, hkk, hkv⟩ := hP j v e
    have hp : p < s.heap.objs.size := let ⟨o, ho, _⟩ := ht; Heap.lt_size ho
    exact ⟨p, key, val, kk, hv, (let ⟨o, ho, r⟩ := ht; ⟨o, Heap.get?_push_of_some _ (hk1 _ _ (Heap.get?_push_of_some _ ho)), r⟩), hkk, hkv, Nat.ne_of_lt hp, Nat.ne_of_lt (Nat.lt_trans hp hdlt)⟩
  · exact ⟨rfl, h h2 tk2 hD2 fun b o e => hk2 b o (Nat.ne_of_lt (Heap.lt_size e)) (Nat.ne_of_lt (Nat.lt_trans (Heap.lt_size e) hdlt)) (Heap.get?_push_of_some _ (hk1 _ _ (Heap.get?_push_of_some _ e)))⟩
end
end PySem

set_option Elab.async false
set_option linter.all false
set_option maxRecDepth 100000
set_option maxHeartbeats 4000000
/-! MORE RULES over the hand layer -/
namespace L2
open PySem PySem.Spec PyProof.Rows
section
variable {X : Cx}

/-! ### isinstance -/
theorem call_isinst : CallR X (.builtin "isinstance") (fun xs H Q => ∃ x T t b, xs = [x, .ty T] ∧ TyOf X.K H x t ∧ PySem.W.kitOne X.K t (.type T) = some b ∧ Q (.bl b) H) := by
  intro pins s σ H xs us Q I r h
  obtain ⟨x, T, t, b, rfl, ty, e, q⟩ := h
  obtain ⟨u, w', rfl, rx, rT⟩ := vals2 r
  cases (show w' = Value.type T from rT)
  exact isinst_ok I rx ty e fun tk => ⟨.bl b, H, I.tok _, rfl, q⟩

/-! ### all, any, sum of a list -/
theorem bools_of : ∀ {bs : List Bool} {us : List Value}, Vals (bs.map V.bl) us → LSm.BoolsAre us bs
  | [], _, .nil => .nil
  | b :: bs, _, .cons r t => by
    cases (show _ = Value.bool b from r)
    exact .cons b (bools_of t)
theorem Inv.news {pins : List (Addr × Obj)} {σ : St} {H : Hp} {s : Shared} (I : Inv X pins σ H s) : ∃ m, Fr X.base X.env.locals s.heap m ∧ News X.base X.env.locals s.heap (allNews X.base s.heap X.env.locals) := by
  obtain ⟨m, F⟩ := I.fr
  exact ⟨m, F, news_all⟩
theorem kept_all {g h h' : Heap} {L : Addr} {m m' : Str → Option Value} (hL : ∀ o, h.get? L = some o → h'.get? L = some o) (k : ∀ b o, g.get? b = some o → h.get? b = some o) (F : Fr g L h' m') (N : News g L h' (allNews g h L)) : ∀ b o, h.get? b = some o → h'.get? b = some o := fun b o e => by
  by_cases hb : b = L
  · subst hb; exact hL o e
  · cases q : g.get? b with
    | some u =>
      have := k b u q
      rw [e] at this; cases this
      exact F.keep b _ q
    | none => exact (N (b, o) (mem_allNews hb q e)).1
end
section
variable {X : Cx} {pins : List (Addr × Obj)} {σ : St} {H : Hp} {s : Shared}
theorem call_all (hc : X.calm = true) : CallR X (.builtin "all") (fun xs H Q => ∃ (p : Addr) (bs : List Bool), xs = [.ref p] ∧ SqL X.K H p (bs.map V.bl) ∧ Q (.bl (bs.all id)) H) := by
  intro pins s σ H xs us Q I r h
  obtain ⟨p, bs, rfl, hq, q⟩ := h
  obtain ⟨u, rfl, rx⟩ := vals1 r
  cases rx
  obtain ⟨its, rv, pl, hz⟩ := I.list hq
  have hb := bools_of rv
  have hlt : p < s.heap.objs.size := by obtain ⟨_, e, _⟩ := pl.isList; exact Heap.lt_size e
  refine call_all_walk (wpAny_pyIter_list pl.isList ?_)
  refine ⟨s.heap.objs.size, [s.heap.objs.size, p], [s.heap.objs.size], its.toArray.size, _, _, fun i => (bs[i]?).getD true, rfl, Walks.list (A := X.A.in1) (by simp [I.ok.hd hc]) _ p (Nat.ne_of_lt hlt) its.toArray, ⟨⟨_, Heap.get?_push_size _ rfl, rfl, rfl⟩, pl.isList.push _⟩, fun i v s' Q' E' hP hQ => ?_, fun h' tk hk => ?_⟩
  · obtain ⟨b, e, rfl⟩ := hb.get i v (by simpa using hP)
    dsimp only at hQ; rw [e] at hQ
    exact wpAny_truthy_bool hQ
  · have e : ((List.range its.toArray.size).all fun i => (bs[i]?).getD true) = bs.all id := by rw [List.size_toArray, hb.length, LSm.range_all]
    rw [e]
    exact ⟨.bl _, H, I.kept (h' := h') (t' := tk) (LSm.kept_iter hk), rfl, q⟩
theorem call_any (hc : X.calm = true) : CallR X (.builtin "any") (fun xs H Q => ∃ (p : Addr) (bs : List Bool), xs = [.ref p] ∧ SqL X.K H p (bs.map V.bl) ∧ Q (.bl (bs.any id)) H) := by
  intro pins s σ H xs us Q I r h
  obtain ⟨p, bs, rfl, hq, q⟩ := h
  obtain ⟨u, rfl, rx⟩ := vals1 r
  cases rx
  obtain ⟨its, rv, pl, hz⟩ := I.list hq
  have hb := bools_of rv
  have hlt : p < s.heap.objs.size := by obtain ⟨_, e, _⟩ := pl.isList; exact Heap.lt_size e
  refine call_any_walk (wpAny_pyIter_list pl.isList ?_)
  refine ⟨s.heap.objs.size, [s.heap.objs.size, p], [s.heap.objs.size], its.toArray.size, _, _, fun i => (bs[i]?).getD false, rfl, Walks.list (A := X.A.in1) (by simp [I.ok.hd hc]) _ p (Nat.ne_of_lt hlt) its.toArray, ⟨⟨_, Heap.get?_push_size _ rfl, rfl, rfl⟩, pl.isList.push _⟩, fun i v s' Q' E' hP hQ => ?_, fun h' tk hk => ?_⟩
  · obtain ⟨b, e, rfl⟩ := hb.get i v (by simpa using hP)
    dsimp only at hQ; rw [e] at hQ
    exact wpAny_truthy_bool hQ
  · have e : ((List.range its.toArray.size).any fun i => (bs[i]?).getD false) = bs.any id := by rw [List.size_toArray, hb.length, LSm.range_any]
    rw [e]
    exact ⟨.bl _, H, I.kept (h' := h') (t' := tk) (LSm.kept_iter hk), rfl, q⟩

/-! ### several records turned, one object laid -/
theorem Inv.turnedL {fp : List Addr} {h' : Heap} {t' : Nat} (I : Inv X pins σ H s) (k : ∀ b o, b ∉ fp → s.heap.get? b = some o → h'.get? b = some o) (hf : ∀ b ∈ fp, FpOk X pins H b) : Inv X pins σ H { s with heap := h', toks := t' } := by
  have nfp : ∀ b u, H b = some u → b ∉ fp := fun b u e z => by rw [(hf b z).1] at e; cases e
  refine I.step (g' := s.gens) (d' := s.drawn) (ch := fp) (fun b hb => ⟨(hf b hb).2.2.2.1, (hf b hb).2.1, (hf b hb).2.2.2.2.1, (hf b hb).2.2.2.2.2⟩) (fun b o _ _ hc e _ => k b o hc e) (fun b o _ _ hc e _ => ⟨o.slots, k b o hc e⟩) (fun _ _ _ _ n => n) (fun b o hc e => ⟨o, k b o hc e⟩)
    (fun _ _ e => e) (fun _ _ _ e => e) (fun b ps e => ⟨#[], by rw [e]; simp⟩) (fun m hm => ?_) (fun b u e => ?_) I.bare
  · obtain ⟨o, es, ep, ho, r⟩ := hm
    exact ⟨o, es, ep, k _ o (fun z => (hf _ z).2.1 rfl) ho, r⟩
  · refine (I.hok b u e).stay (fun c v hc q => k c v ?_ q) (fun _ q => q) fun _ _ q => q
    rcases hc with z | z
    · rw [z]; exact nfp b u e
    · exact nfp c _ z
theorem Inv.turnLaid {fp : List Addr} {h' : Heap} {t' : Nat} {p : Addr} {o : HO} (I : Inv X pins σ H s) (k : ∀ b u, b ∉ fp → s.heap.get? b = some u → h'.get? b = some u) (hf : ∀ b ∈ fp, FpOk X pins H b) (hp : s.heap.objs.size ≤ p)
    (new : ObjOk X.prog X.w (upd H p o) h' p o) : Inv X pins σ (upd H p o) { s with heap := h', toks := t' } := by
  have nfp : ∀ b u, H b = some u → b ∉ fp := fun b u e z => by rw [(hf b z).1] at e; cases e
  have hn := I.hok.fresh hp
  have old : ∀ {b : Addr} {u : Obj}, s.heap.get? b = some u → b ≠ p := fun e => Nat.ne_of_lt (Nat.lt_of_lt_of_le (Heap.lt_size e) hp)
  refine I.step (g' := s.gens) (d' := s.drawn) (ch := fp) (fun b hb => ⟨(hf b hb).2.2.2.1, (hf b hb).2.1, (hf b hb).2.2.2.2.1, (hf b hb).2.2.2.2.2⟩) (fun b o _ _ hc e _ => k b o hc e) (fun b o _ _ hc e _ => ⟨o.slots, k b o hc e⟩) (fun b o _ e n => by rw [upd_ne (old e)]; exact n) (fun b o hc e => ⟨o, k b o hc e⟩)
    (fun b xs e => by rw [upd_ne (ne_of_none e hn)]; exact e) (fun b u xs e => by rw [upd_ne (ne_of_none e hn)]; exact e) (fun b ps e => ⟨#[], by rw [upd_ne (ne_of_none e hn), e]; simp⟩) (fun m hm => ?_) (fun b u e => ?_) I.bare
  · obtain ⟨o, es, ep, ho, r⟩ := hm
    exact ⟨o, es, ep, k _ o (fun z => (hf _ z).2.1 rfl) ho, r⟩
  · by_cases hb : b = p
    · subst hb; rw [upd_same] at e; cases e; exact new
    · rw [upd_ne hb] at e
      refine (I.hok b u e).stay (fun c v hc q => k c v ?_ q) (fun c q => by rw [upd_ne (ne_of_none q hn)]; exact q) fun c xs q => by rw [upd_ne (ne_of_none q hn)]; exact q
      rcases hc with z | z
      · rw [z]; exact nfp b u e
      · exact nfp c _ z

/-! ### enumerate(t), unpacked -/
/-- at turn i a new pair (i, the i-th item) -/
def Ite (S : Hp → List V → Prop) : It :=
  ⟨fun i H => ∃ xs x, S H xs ∧ xs[i]? = some x, fun i H x H' => ∃ p y, x = .ref p ∧ H p = none ∧ H' = upd H p (.tup [.int i, y]) ∧ ∀ xs, S H xs → xs[i]? = some y, fun i H => ∃ xs, S H xs ∧ xs.length = i⟩
theorem turn_enumT {P : Program} {w : World} {K : PySem.W.Frag} {es : List Expr} {x1} {pos : Pos} (e it a : Addr) (hei : e ≠ it) :
    Turn P w K (.Tuple es x1 pos) (Ite fun H xs => SqT K H a xs) [e, it] e (fun i h => (∃ old, IsEnum h e it i old) ∧ h.IsTupleIter it a i ∧ a ≠ it ∧ a ≠ e) where
  mem := by simp
  obj := fun i h st b hb => by
    obtain ⟨⟨old, he⟩, ⟨o, e1, c, d⟩, _⟩ := st
    rcases List.mem_cons.mp hb with z | z
    · subst z; exact ⟨_, he, fun v z => by cases z⟩
    · have z' := List.mem_singleton.mp z
      subst z'; exact ⟨o, e1, fun v z => by rw [d] at z; cases z⟩
  keep := fun i h h' st k => ⟨let ⟨old, he⟩ := st.1; ⟨old, k e (by simp) _ he⟩, st.2.1.at fun o q => k it (by simp) o q, st.2.2⟩
  item := by
    intro X hP hw hK hc i pins s σ H E I hf st hg
    subst hP hw hK
    obtain ⟨⟨old, he⟩, hit, hai, hae⟩ := st
    obtain ⟨xs, x, hq, hx⟩ := hg
    obtain ⟨its, rv, p, hz⟩ := I.tuple hq
    obtain ⟨u, hu, ru⟩ := rv.get hx
    have hlt : i < its.toArray.size := by
      rw [List.size_toArray]; exact (List.getElem?_eq_some_iff.mp hu).1
    refine wpAny_pyNext_enum_itemD (Draws.tuple (A := X.A.in1) (by simp [I.ok.hd hc]) it a hai its.toArray) he ⟨hit, p⟩ hlt hei (by simp [hei, Ne.symm hae]) fun v h' tk hv ho hst' hT hsz hk => ?_
    have hv' : v = u := by
      have e1 : its[i]? = some v := by simpa using hv
      rw [hu] at e1; exact (Option.some.inj e1).symm
    subst hv'
    refine ⟨_, rfl, wpAny_letOwnedTupleGo_enum (s := { s with heap := h', toks := tk + 1 }) ho fun h2 he2 hs2 => ?_⟩
    have helt : e < s.heap.objs.size := Heap.lt_size he
    have hilt : it < s.heap.objs.size := by obtain ⟨_, q, _⟩ := hit; exact Heap.lt_size q
    have hTe : s.heap.objs.size ≠ e := Nat.ne_of_gt helt
    have hn : H s.heap.objs.size = none := I.hok.fresh (Nat.le_refl _)
    have kp : ∀ b o, b ∉ [e, it] → s.heap.get? b = some o → h2.get? b = some o := fun b o hb q => by
      have hbe : b ≠ e := fun z => hb (by simp [z])
      have hbi : b ≠ it := fun z => hb (by simp [z])
      exact (hs2.2 b hbe).trans (hk b o hbe hbi q)
    have hT2 : h2.get? s.heap.objs.size = some { cls := .type "tuple", data := .seq #[.int i tk, v] } := (hs2.2 _ hTe).trans hT
    have I2 : Inv X pins σ (upd H s.heap.objs.size (.tup [.int i, x])) { s with heap := h2, toks := tk + 1 } := I.turnLaid (fp := [e, it]) kp hf (Nat.le_refl _) ⟨by show 2 ≤ sizeLine; rw [sizeLine_eq]; decide, [.int i tk, v], .cons ⟨_, rfl⟩ (.cons ru .nil), ⟨_, hT2, rfl, _, rfl⟩⟩
    refine ⟨.ref s.heap.objs.size, _, I2, rfl, ⟨s.heap.objs.size, x, rfl, hn, rfl, fun ys hy => by rw [I.tuple_inj hy hq]; exact hx⟩, ⟨⟨_, by simpa using he2⟩, hst'.1.at fun o q => (hs2.2 it hei.symm).trans q, hai, hae⟩, fun b hb => ?_⟩
    have hbz : b ≠ s.heap.objs.size := by
      rcases List.mem_cons.mp hb with z | z
      · rw [z]; exact Nat.ne_of_lt helt
      · rw [List.mem_singleton.mp z]; exact Nat.ne_of_lt hilt
    rw [upd_ne hbz]; exact (hf b hb).1
  done := by
    intro X hP hw hK hc i pins s σ H E I hf st hg
    subst hP hw hK
    obtain ⟨⟨old, he⟩, hit, hai, hae⟩ := st
    obtain ⟨xs, hq, hx⟩ := hg
    obtain ⟨its, rv, p, hz⟩ := I.tuple hq
    have hl := rv.length
    have hi : its.toArray.size = i := by rw [List.size_toArray, ← hl, hx]
    refine wpAny_pyNext_enum_endD (Draws.tuple (A := X.A.in1) (by simp [I.ok.hd hc]) it a hai its.toArray) he (by rw [hi]; exact ⟨hit, p⟩) fun h' hs' => ⟨rfl, ?_⟩
    exact I.turned (it := it) (t' := s.toks) (fun b o hb q => hs' b o hb q) (hf it (by simp)).1 (hf it (by simp)).2.1 (hf it (by simp)).2.2.2.1 (hf it (by simp)).2.2.2.2.1 (hf it (by simp)).2.2.2.2.2
  self := fun _ _ _ _ _ st h => let ⟨old, he⟩ := st.1; wpAny_pyIter_enum he h
def iEnumT (K : PySem.W.Frag) (ta : TA) : TI := fun σ H R => ta σ H fun vs H1 => ∃ a xs, vs = [.ref a] ∧ SqT K H1 a xs ∧ R (Ite fun H xs => SqT K H a xs) H1
theorem pi_enumT {a : Expr} {ta : TA} {p pos : Pos} {es : List Expr} {x1} {tpos : Pos} (hc : X.calm = true) (hg : Gl X "enumerate") (hm : X.mg "enumerate" = none) (ha : PA X [a] ta) (hs : starEach [a] X.env = [(false, eval a X.env)] := by rfl) :
    PI X (.Tuple es x1 tpos) (.Call (.Name "enumerate" p) [a] [] pos) (iEnumT X.K ta) := by
  intro pins s σ H R I h
  refine Call_ (ld_blt I hg hm boot_enumerate (PyProof.Rows.callWith_type1 (thn (ha pos pins s σ H _ I h) fun us s1 ⟨vs, H1, I1, r1, q1⟩ => ?_) hs rfl))
  obtain ⟨b, xs, e, hq, q⟩ := q1
  subst e
  obtain ⟨u, rfl, rx⟩ := vals1 r1
  cases rx
  obtain ⟨its, rv, pt, hz⟩ := I1.tuple hq
  have hblt : b < s1.heap.objs.size := by obtain ⟨o, ho, _⟩ := id pt; exact Heap.lt_size ho
  refine call_enumerate_tuple pt fun h' he hit hsz hk => ?_
  refine wpAny_pyIter_enum (s := { s1 with heap := h' }) he ?_
  have I2 : Inv X pins σ H1 { s1 with heap := h' } := I1.kept (t' := s1.toks) hk
  refine ⟨s1.heap.objs.size + 1, [s1.heap.objs.size + 1, s1.heap.objs.size], _, _, H1, rfl, I2, turn_enumT _ _ b (Nat.succ_ne_self _), ⟨⟨_, he⟩, hit, Nat.ne_of_lt hblt, Nat.ne_of_lt (Nat.lt_succ_of_lt hblt)⟩, fun c hc' => ?_, q⟩
  have hge : s1.heap.objs.size ≤ c := by
    rcases List.mem_cons.mp hc' with z | z
    · rw [z]; exact Nat.le_succ _
    · rw [List.mem_singleton.mp z]; exact Nat.le_refl _
  exact I1.fpOk hge (I1.hok.fresh hge)
/-- over enumerate of a tuple that stays -/
theorem for_enum {S : Hp → List V → Prop} {xs : List V} {g : TG} {tb : TS} {D : Ends} {σ : St} {H : Hp} (Pv : Nat → St → Hp → Prop) (h0 : Pv 0 σ H) (hl : ∀ i σ H, i ≤ xs.length → Pv i σ H → S H xs)
    (hs : ∀ i x p σ H, xs[i]? = some x → Pv i σ H → H p = none → g (.ref p) σ (upd H p (.tup [.int i, x])) fun σ2 H2 => tb { D with nx := Pv (i + 1), ct := Pv (i + 1), bk := D.nx } σ2 H2) (hd : ∀ σ H, Pv xs.length σ H → D.nx σ H) :
    tForJ (Ite S) g tb D σ H := by
  refine ⟨fun i m σ H => m = xs.length - i ∧ i ≤ xs.length ∧ Pv i σ H, ⟨xs.length, by simp, Nat.zero_le _, h0⟩, ?_⟩
  rintro i m σ H ⟨rfl, hi, p⟩
  have q := hl i σ H hi p
  by_cases hlt : i < xs.length
  · refine .inr ⟨⟨xs, xs[i], q, by simp [hlt]⟩, Pv (i + 1), fun σ' H' p' => ⟨xs.length - (i + 1), by omega, rfl, hlt, p'⟩, fun x H' y => ?_⟩
    obtain ⟨pp, yy, e1, e2, e3, e4⟩ := y
    subst e1 e3
    exact hs i yy pp σ H (e4 xs q) p e2
  · have e : i = xs.length := by omega
    subst e
    exact .inl ⟨⟨xs, q, rfl⟩, hd σ H p⟩
end
end L2

set_option Elab.async false
set_option linter.all false
set_option maxRecDepth 100000
set_option maxHeartbeats 4000000
namespace L2
open PySem PySem.Spec PyProof.Rows
section
variable {X : Cx} {pins : List (Addr × Obj)} {σ : St} {H : Hp} {s : Shared}

/-- a tuple of ys stands somewhere, new or not; all else as it was -/
def NewTup (H : Hp) (ys : List V) (Q : VK) : Prop := ∀ p H', Same H H' → H' p = some (.tup ys) → Q (.ref p) H'
theorem same_upd {H : Hp} {p : Addr} {o : HO} (h : H p = none) : Same H (upd H p o) := fun b u e => by rw [upd_ne (ne_of_none e h)]; exact e
theorem NewTup.new {ys : List V} {Q : VK} {p : Addr} (h : NewTup H ys Q) (hp : H p = none) : Q (.ref p) (upd H p (.tup ys)) := h p _ (same_upd hp) upd_same
theorem NewTup.old {ys : List V} {Q : VK} {p : Addr} (h : NewTup H ys Q) (hp : H p = some (.tup ys)) : Q (.ref p) H := h p H (Same.refl H) hp
/-- laying a tuple -/
theorem Inv.newTup {ys : List V} {its : List Value} {Q : VK} (I : Inv X pins σ H s) (r : Vals ys its) (hz : ys.length ≤ sizeLine) (h : NewTup H ys Q) : EP X pins σ Q (.ref s.heap.objs.size) { s with heap := s.heap.push { cls := .type "tuple", data := .seq its.toArray } } :=
  ⟨.ref s.heap.objs.size, _, I.laid (t' := s.toks) (o := .tup ys) (fun b ob q => Heap.get?_push_of_some _ q) (Nat.le_refl _) ⟨hz, _, r, IsTup.new _ _⟩, rfl, h.new (I.hok.fresh (Nat.le_refl _))⟩

/-! ### t + u -/
def rCatU : R2 := fun x y H Q => ∃ a b xs ys, x = .ref a ∧ y = .ref b ∧ H a = some (.tup xs) ∧ H b = some (.tup ys) ∧ xs.length + ys.length ≤ sizeLine ∧ NewTup H (xs ++ ys) Q
theorem op_catU : OpR X (binaryOp .Add) rCatU := by
  intro pins s σ H x y v u Q I rx ry h
  obtain ⟨a, b, xs, ys, rfl, rfl, ha, hb, hz, q⟩ := h
  cases rx
  cases ry
  obtain ⟨its, r1, p1, _⟩ := I.tuple (SqT.of ha)
  obtain ⟨its2, r2, p2, _⟩ := I.tuple (SqT.of hb)
  by_cases hx : xs = []
  · subst hx
    cases r1
    obtain ⟨⟨c1, d1, t1, l1⟩, ho, hc, n, hd⟩ := id p1
    obtain ⟨⟨c2, d2, t2, l2⟩, ho2, hc2, n2, hd2⟩ := id p2
    simp only at hc hd hc2 hd2
    subst hc hd hc2 hd2
    exact concat_meets ⟨_, ho, rfl⟩ ⟨_, ho2, rfl⟩ noFill_tuple_add seq_tuple_add PySem.F.slot_tuple_add PySem.F.entry_tuple_add (PySem.F.args_tuple_add_2 _ _) (tuple_addW0 a b _ _ n n2 d1 d2 l1 l2 (by simp)) ⟨ho, ho2, .ref b, H, I, rfl, q.old hb⟩
  · refine HT.cat_tup p1 p2 (fun z => hx (r1.nil_iff.mp z)) (fun z => ⟨.ref a, H, I, rfl, ?_⟩) (fun z => I.newTup (r1.append r2) (by rw [List.length_append]; exact hz) q) (by rw [← r1.length, ← r2.length]; exact hz)
    have : ys = [] := r2.nil_iff.mp z
    subst this
    rw [List.append_nil] at q
    exact q.old ha

/-! ### t[lo:hi] -/
theorem slice_same {t sl : Addr} {items : Array Value} {vl vu : Value} {lo hi : Option Int} {Q : Value → Shared → Prop} {prog : Program} {w : World} {A : Around} {E : Value → Shared → Prop} (ht : IsTup s.heap t items) (hs : s.heap.IsSliceOf sl vl vu .none) (pl : IsPart vl lo) (pu : IsPart vu hi)
    (hw : HT.sIx items.size 0 lo = 0 ∧ HT.sIx items.size items.size hi = items.size) (h : Q (.ref t) s) : wpAny (model prog w) A (getItem (.ref t) (.ref sl)) Q E s := by
  obtain ⟨os, hos, hcs, hds⟩ := id hs
  have hTs : s.TypeIs (.ref sl) "slice" := ⟨os, hos, hcs⟩
  unfold getItem
  try with_reducible refine wpAny_holding ?_
  first | refine wpAny_bind (wpAny_pure ?_) | skip
  refine wpAny_bind (wpAny_sequenceKey ht.typeIs (by decide) (wpAny_bind (wpAny_callSpecial?_slot (name := Str.ofString "__getitem__") ht.typeIs PyProof.Rows.slot_tuple_getitem (wpAny_call_entry PyProof.Rows.slot_tuple_getitem ht.typeIs entry_tuple_getitem ?_ (args_tuple_getitem _ _)))))
  show wpAny _ _ (Builtin.Tuple.tupleItemsOf (.ref t) >>= _) _ _ s
  refine wpAny_bind (tupleItemsOf_ ht (wpAny_bind (wpAny_typeOf hTs ?_)))
  rw [if_pos (by decide)]
  refine wpAny_bind (HT.sliceApplied_gen hs pl pu ?_)
  have hyes : (((HT.sIx items.size 0 lo : Nat) : Int) == 0 && (1 : Int) == 1 && (HT.sIx items.size items.size hi - HT.sIx items.size 0 lo) == items.size) = true := by rw [hw.1, hw.2]; simp
  show wpAny _ _ (if (((HT.sIx items.size 0 lo : Nat) : Int) == 0 && (1 : Int) == 1 && (HT.sIx items.size items.size hi - HT.sIx items.size 0 lo) == items.size) = true then _ else _) _ _ s
  rw [if_pos hyes]
  obtain ⟨⟨c1, d1, t1, l1⟩, ho, hc, n, hd⟩ := id ht
  simp only at hc hd
  subst hc hd
  obtain ⟨hp, g, d, tk, osx⟩ := s
  wp_walk using AutoSeq1.wpAny_loadPart' ho
  all_goals first | exact ⟨_, rfl, h⟩ | exact ⟨_, rfl, wpAny_pure h⟩
def rSlU : V → Option Int → Option Int → Hp → VK → Prop := fun x lo hi H Q => ∃ a xs, x = .ref a ∧ H a = some (.tup xs) ∧ NewTup H (cutV xs lo hi) Q
theorem sl_tupU : SlR X rSlU := by
  intro pins s σ H x v vl vu lo hi sl Q I rx hs pl pu h
  obtain ⟨a, xs, rfl, hx, q⟩ := h
  cases rx
  obtain ⟨its, r, ht, hz⟩ := I.tuple (SqT.of hx)
  have hlen : its.toArray.size = xs.length := by rw [List.size_toArray]; exact r.length.symm
  refine ⟨"tuple", _, PyProof.Rows.slot_tuple_getitem.lookup, ht.typeIs, ?_⟩
  by_cases hw : HT.sIx xs.length 0 lo = 0 ∧ HT.sIx xs.length xs.length hi = xs.length
  · refine slice_same ht hs pl pu (by rw [hlen]; exact hw) ⟨.ref a, H, I, rfl, ?_⟩
    have : cutV xs lo hi = xs := by unfold cutV; rw [hw.1, hw.2]; simp
    rw [this] at q
    exact q.old hx
  · refine HT.getItem_tuple_cut ht hs pl pu (by rw [hlen]; exact hw) ?_ (by rw [hlen]; exact hz)
    rw [hlen]
    exact I.newTup ((r.drop (HT.sIx xs.length 0 lo)).take (HT.sIx xs.length xs.length hi - HT.sIx xs.length 0 lo)) (Nat.le_trans (cutV_length xs lo hi) hz) q

/-! ### t * k -/
def rRepU : R2 := fun x y H Q => ∃ a k xs, x = .ref a ∧ y = .int k ∧ H a = some (.tup xs) ∧ -1000 ≤ k ∧ k ≤ 1000 ∧ xs.length ≤ 1000 ∧ NewTup H (List.replicate k.toNat xs).flatten Q
theorem op_repU : OpR X (binaryOp .Mult) rRepU := by
  intro pins s σ H x y v u Q I rx ry h
  obtain ⟨a, k, xs, rfl, rfl, ha, h1, h2, h3, q⟩ := h
  cases rx
  obtain ⟨t, rfl⟩ := ry
  obtain ⟨its, r, ht, hz⟩ := I.tuple (SqT.of ha)
  have hlen : its.length = xs.length := r.length.symm
  obtain ⟨⟨c1, d1, t1, l1⟩, ho, hc, n, hd⟩ := id ht
  simp only at hc hd
  subst hc hd
  have hc0 : (decide (k < -(2 ^ 63)) || decide (k ≥ 2 ^ 63)) = false := by simp only [Bool.or_eq_false_iff, decide_eq_false_iff_not]; omega
  have go : ∀ {S : PySem.Spec}, Meets (Builtin.«tuple.__mul__» ⟨[.ref a, .int k t], []⟩) S → S X.A (wants (EP X pins σ Q) X.xe) s → wpAny (model X.prog X.w) X.A (binaryOp .Mult (.ref a) (.int k t)) (EP X pins σ Q) X.xe s := fun M h =>
    wpAny_binaryOp_repeat_ref (T := "tuple") (U := "int") (by decide) ⟨_, ho, rfl⟩ (fun s' => typeIs_int s' k t) PySem.F.noFill_tuple_mul F.fills_int_mul F.slot_int_rmul PySem.F.repeat_tuple F.slot_int_index.lookup
      (call_meets F.slot_int_rmul (typeIs_int s k t) F.entry_int_rmul (F.args_int_rmul_2 _ _) (int___rmul___int_tuple k t a its.toArray n d1 l1) ⟨ho, rfl, ⟨_, ho, rfl⟩, call_meets F.slot_tuple_mul ⟨_, ho, rfl⟩ F.entry_tuple_mul (F.args_tuple_mul_2 _ _) M h⟩)
  have f0 : ∀ m : Nat, List.foldl (fun x1 x2 => x1 ++ x2) #[] (List.replicate m its.toArray) = (List.replicate m its).flatten.toArray := fun m => by
    have := foldl_rep its m []
    rw [List.nil_append] at this
    exact this
  by_cases h4 : (its.toArray.isEmpty || k == 1) = true
  · refine go (tuple_mul1 a its.toArray n d1 l1 k t hc0 h4) ⟨ho, .ref a, H, I, rfl, ?_⟩
    have : (List.replicate k.toNat xs).flatten = xs := by
      rcases Bool.or_eq_true_iff.mp h4 with z | z
      · have : xs = [] := by
          have : its = [] := by simpa using z
          rw [this] at r; cases r; rfl
        subst this; simp
      · have : k = 1 := eq_of_beq z
        subst this; simp
    rw [this] at q
    exact q.old ha
  · have h4' := Bool.eq_false_iff.mpr h4
    have hne : its.toArray.isEmpty = false := (Bool.or_eq_false_iff.mp h4').1
    by_cases h5 : k ≤ 0
    · refine go (tuple_mul2 a its.toArray n d1 l1 k t hc0 h4' (by simp [h5])) ⟨ho, ?_⟩
      have : (List.replicate k.toNat xs).flatten = [] := by
        have : k.toNat = 0 := by omega
        rw [this]; rfl
      rw [this] at q
      exact I.newTup (its := []) .nil (by simp) q
    · have hm : (its.length : Int) * k ≤ 1000 * 1000 := by
        have : (its.length : Int) ≤ 1000 := by omega
        exact Int.mul_le_mul this h2 (by omega) (by omega)
      refine go (tuple_mul3 a its.toArray n d1 l1 k t hc0 h4' (by simp [hne]; omega) (by rw [List.size_toArray]; omega) (by unfold Builtin.Tuple.tupleTooMany; rw [List.size_toArray, decide_eq_false_iff_not, sizeLine_eq]; omega) ?_) ⟨ho, ?_⟩
      · rw [f0, List.size_toArray, len_rep, sizeLine_eq]
        have : k.toNat * its.length ≤ 1000 * 1000 := Nat.mul_le_mul (by omega) (by omega)
        omega
      · rw [f0]
        refine I.newTup (r.rep k.toNat) ?_ q
        rw [len_rep, sizeLine_eq]
        have : k.toNat * xs.length ≤ 1000 * 1000 := Nat.mul_le_mul (by omega) (by omega)
        omega

/-! ### set(list of ints), its size -/
theorem call_setL (hc : X.calm = true) : CallR X (.type "set") (fun xs H Q => ∃ (p : Addr) (ns : List Int), xs = [.ref p] ∧ SqL X.K H p (ns.map V.int) ∧ ns.length + 1 < scanBound ∧ ∀ l, H l = none →
    Q (.ref l) (upd H l (.set (fun k' => (firstMet (fun i => ns.getD i 0) ns.length).any (· == k')) (firstMet (fun i => ns.getD i 0) ns.length).length))) := by
  intro pins s σ H xs us Q I r h
  obtain ⟨p, ns, rfl, hq, hb, q⟩ := h
  obtain ⟨u, rfl, rx⟩ := vals1 r
  cases rx
  obtain ⟨its, rv, pl, hz⟩ := I.list hq
  have hi : IntsAre its.toArray.toList ns := intsAre_of rv
  have hl := rv.length
  rw [List.length_map] at hl
  have e : its.toArray.size = ns.length := by rw [List.size_toArray, hl]
  refine PySem.call_set_list (I.ok.hd hc) pl.isList hi (by rw [e]; exact hb) fun h' tk hS hk => ?_
  rw [e] at hS
  exact ⟨.ref s.heap.objs.size, _, I.laid (t' := tk) (fun b o q => hk b o (Heap.lt_size q) q) (Nat.le_refl _) (o := .set _ _) hS, rfl, q _ (I.hok.fresh (Nat.le_refl _))⟩
theorem call_lenS : CallR X (.builtin "len") (fun xs H Q => ∃ p S n, xs = [.ref p] ∧ H p = some (.set S n) ∧ Q (.int n) H) := by
  intro pins s σ H xs us Q I r h
  obtain ⟨p, S, n, rfl, hp, q⟩ := h
  obtain ⟨u, rfl, rx⟩ := vals1 r
  cases rx
  obtain ⟨o, es, ep, t, ho, hx, hd, hel, hm, hb, hf, hn⟩ := (show s.heap.SetOf (intKind X.prog X.w) p S n from I.hok p _ hp)
  subst hn
  have hb' : es.size < 4096 := hb
  exact PySem.call_len_set ho hx hd hf (by omega) ⟨.int _, H, I.tok _, ⟨_, rfl⟩, q⟩

/-! ### dict(list of pairs (0, v), (1, w), ..) -/
def enumK (vs : List V) : List (Key × V) := vs.zipIdx.map fun p => (Sum.inl (p.2 : Int), p.1)
theorem enumK_keys (vs : List V) : ((enumK vs).map (·.1)).Nodup := by
  unfold enumK
  rw [List.map_map, List.nodup_iff_pairwise_ne, List.pairwise_map]
  refine List.Pairwise.imp (R := fun a b => a.2 < b.2) (fun {a b} h e => ?_) ?_
  · have : ((a.2 : Nat) : Int) = (b.2 : Nat) := Sum.inl.inj e
    omega
  · rw [List.pairwise_iff_getElem]
    intro i j hi hj hij
    simp only [List.getElem_zipIdx]
    omega
theorem call_dictL (hc : X.calm = true) : CallR X (.type "dict") (fun xs H Q => ∃ (p : Addr) (ps : List Addr) (vs : List V), xs = [.ref p] ∧ H p = some (.lst (ps.map V.ref)) ∧ ps.length = vs.length ∧
    (∀ (j : Nat) (q : Addr) (v : V), ps[j]? = some q → vs[j]? = some v → H q = some (.tup [.int j, v])) ∧ ∀ l, H l = none → Q (.ref l) (upd H l (.dK (enumK vs)))) := by
  intro pins s σ H xs us Q I r h
  obtain ⟨p, ps, vs, rfl, hp, hl, hP, q⟩ := h
  obtain ⟨u, rfl, rx⟩ := vals1 r
  cases rx
  obtain ⟨z, its, n, rv, hlen, e⟩ := I.lstM hp
  have hpl : ps.length = its.length := by rw [← hlen, List.length_map]
  -- the values behind the pairs
  have get : ∀ (j : Nat) (q : Addr), ps[j]? = some q → its[j]? = some (.ref q) ∧ ∃ v w' t, vs[j]? = some v ∧ RelV v w' ∧ s.heap.IsTuple q #[.int j t, w'] := fun j q hj => by
    obtain ⟨u, hu, ru⟩ := rv.get (i := j) (x := .ref q) (by rw [List.getElem?_map, hj]; rfl)
    cases (show u = Value.ref q from ru)
    have hjl : j < vs.length := by rw [← hl]; exact (List.getElem?_eq_some_iff.mp hj).1
    obtain ⟨_, tv, rt, pt⟩ := (show ObjOk X.prog X.w H s.heap q (.tup [.int j, vs[j]]) from I.hok q _ (hP j q vs[j] hj (by simp [hjl])))
    obtain ⟨a, b, rfl, ra, rb⟩ := rt.two
    obtain ⟨t, rfl⟩ := ra
    exact ⟨hu, vs[j], b, t, by simp [hjl], rb, pt⟩
  have all : ∃ ws : List Value, ws.length = vs.length ∧ ∀ (j : Nat) (q : Addr), ps[j]? = some q → ∃ v w' t, vs[j]? = some v ∧ ws[j]? = some w' ∧ RelV v w' ∧ s.heap.IsTuple q #[.int j t, w'] := by
    refine ⟨(List.range vs.length).map fun j => if h : j < ps.length then (Classical.choose (Classical.choose_spec (get j ps[j] (by simp [h])).2)) else .none, by simp, fun j q hj => ?_⟩
    obtain ⟨hjl, hjq⟩ := List.getElem?_eq_some_iff.mp hj
    have key := Classical.choose_spec (Classical.choose_spec (get j ps[j] (by simp [hjl])).2)
    obtain ⟨t, k1, k2, k3⟩ := key
    refine ⟨_, _, t, k1, ?_, k2, by rw [← hjq]; exact k3⟩
    rw [List.getElem?_map, List.getElem?_range (by omega)]
    simp [hjl]
  obtain ⟨ws, hw, all⟩ := all
  have hzv : vs.length ≤ sizeLine := by rw [List.length_map] at z; omega
  have kvW : (ws.zipIdx.map fun p => ((Sum.inl (p.2 : Int) : Key), p.1)).length = its.toArray.size := by simp; omega
  have ndW : ((ws.zipIdx.map fun p => ((Sum.inl (p.2 : Int) : Key), p.1)).map (·.1)).Nodup := by
    rw [List.map_map, List.nodup_iff_pairwise_ne, List.pairwise_map]
    refine List.Pairwise.imp (R := fun a b => a.2 < b.2) (fun {a b} h e => ?_) ?_
    · have : ((a.2 : Nat) : Int) = (b.2 : Nat) := Sum.inl.inj e
      omega
    · rw [List.pairwise_iff_getElem]
      intro i j hi hj hij
      simp only [List.getElem_zipIdx]
      omega
  refine call_dict_pairs (knd := mixKind X.prog X.w) (I.ok.hd hc) kvW ndW (by rw [List.size_toArray]; omega) e (fun j v hv => ?_) fun h' tk hD hk => ?_
  · have hv' : its[j]? = some v := by simpa using hv
    have hjl : j < ps.length := by rw [hpl]; exact (List.getElem?_eq_some_iff.mp hv').1
    obtain ⟨e1, _⟩ := get j ps[j] (by simp [hjl])
    obtain ⟨v', w', t, k1, k2, k3, k4⟩ := all j ps[j] (by simp [hjl])
    rw [hv'] at e1
    refine ⟨ps[j], .int j t, w', Sum.inl (j : Int), Option.some.inj e1, k4, mixKind_int _ _ _ _, ?_⟩
    rw [List.getElem?_map, List.getElem?_zipIdx, k2]
    simp
  · refine ⟨.ref s.heap.objs.size, _, I.laid (t' := tk) (o := .dK (enumK vs)) hk (Nat.le_refl _) ?_, rfl, q _ (I.hok.fresh (Nat.le_refl _))⟩
    refine ⟨by unfold enumK; simp; exact hzv, beq_eq_false_iff_ne.mpr (Nat.ne_of_gt I.big), _, ?_, hD⟩
    have go : ∀ (vs : List V) (ws : List Value) (n : Nat), vs.length = ws.length → (∀ (j : Nat) v w', vs[j]? = some v → ws[j]? = some w' → RelV v w') → KV ((vs.zipIdx n).map fun p => ((Sum.inl (p.2 : Int) : Key), p.1)) ((ws.zipIdx n).map fun p => ((Sum.inl (p.2 : Int) : Key), p.1)) := by
      intro vs
      induction vs with
      | nil => intro ws n hl _; cases ws with | nil => exact .nil | cons _ _ => simp at hl
      | cons v vs ih =>
        intro ws n hl hr
        cases ws with
        | nil => simp at hl
        | cons w' ws =>
          rw [List.zipIdx_cons, List.zipIdx_cons]
          exact .cons ⟨rfl, hr 0 v w' rfl rfl⟩ (ih ws (n + 1) (by simpa using hl) fun j a b h1 h2 => hr (j + 1) a b (by simpa using h1) (by simpa using h2))
    refine go vs ws 0 hw.symm fun j v w' h1 h2 => ?_
    have hjl : j < ps.length := by rw [hl]; exact (List.getElem?_eq_some_iff.mp h1).1
    obtain ⟨v', w2, t, k1, k2, k3, k4⟩ := all j ps[j] (by simp [hjl])
    rw [h1] at k1; rw [h2] at k2
    cases k1; cases k2
    exact k3

/-! ### a text some times over -/
theorem op_rep_str : OpR X (binaryOp .Mult) (fun x y H Q => ∃ (z : Str) (k : Int), x = .str z ∧ y = .int k ∧ 1 ≤ k ∧ k ≤ 1000 ∧ z.length ≤ 1000 ∧ ∀ z', Q (.str z') H) := by
  intro pins s σ H x y v u Q I rx ry h
  obtain ⟨z, k, rfl, rfl, h1, h2, h3, q⟩ := h
  obtain ⟨t, rfl⟩ := rx
  obtain ⟨t', rfl⟩ := ry
  have hm : z.length * k.toNat ≤ 1000 * 1000 := Nat.mul_le_mul h3 (by omega)
  have hrl : (List.foldl (fun x1 x2 => x1 ++ x2) #[] (List.replicate k.toNat z.cps)).size = k.toNat * z.cps.size := by
    have go : ∀ (m : Nat) (acc : Array Nat), (List.foldl (fun x1 x2 => x1 ++ x2) acc (List.replicate m z.cps)).size = acc.size + m * z.cps.size := by
      intro m
      induction m with
      | zero => intro acc; simp
      | succ m ih => intro acc; rw [List.replicate_succ, List.foldl_cons, ih, Array.size_append, Nat.succ_mul]; omega
    rw [go]; simp
  refine PySem.P.mul_str (by simp only [Bool.or_eq_false_iff, decide_eq_false_iff_not]; omega) (fun _ _ => ?_) (fun _ _ => ?_) ?_
  · have : (1 : Int) ≤ (2 ^ 63 - 1) / k := by
      rw [Int.le_ediv_iff_mul_le (by omega)]; omega
    have h5 : (1000 : Int) ≤ (2 ^ 63 - 1) / k := by
      rw [Int.le_ediv_iff_mul_le (by omega)]; omega
    omega
  · first | (unfold PySem.Builtin.Str.tooLong; rw [decide_eq_false_iff_not, sizeLine_eq]; omega) | (unfold PySem.tooLong; rw [decide_eq_false_iff_not, sizeLine_eq]; omega) | (simp [PySem.tooLong]; omega)
  · rw [if_neg (by omega)]
    by_cases hk : (k == 1 || z.length == 0) = true
    · rw [if_pos hk]
      exact ⟨.str z, H, I, ⟨_, rfl⟩, q z⟩
    · rw [if_neg hk]
      refine ⟨?_, .str _, H, I.tok _, ⟨_, rfl⟩, q _⟩
      show (List.foldl (fun x1 x2 => x1 ++ x2) #[] (List.replicate k.toNat z.cps)).size ≤ sizeLine
      rw [hrl, sizeLine_eq, Nat.mul_comm]
      have : z.cps.size * k.toNat ≤ 1000 * 1000 := hm
      omega
end
end L2
namespace L2
open PySem PySem.Spec PyProof.Rows
section
variable {X : Cx} {pos : Pos}
/-- a, b, c = x, y, z with plain local names -/
def tPar3 (i j k : Nat) (ta : TA) : TS := fun D σ H => ta σ H fun vs H1 => ∃ v w z, vs = [v, w, z] ∧ D.nx (((σ.set i (some v)).set j (some w)).set k (some z)) H1
theorem ps_par3 {i j k : Nat} {x y z : Str} {a b c : Expr} {ta : TA} {px py pz pt : Pos} {kt k2 pt2} (hc : X.calm = true) (hN : X.N.Nodup) (hi : X.N[i]? = some x) (hj : X.N[j]? = some y) (hk : X.N[k]? = some z) (hij : i ≠ j) (hik : i ≠ k) (hjk : j ≠ k)
    (hx : X.env.scope.names.lookup x = some .local) (hy : X.env.scope.names.lookup y = some .local) (hz : X.env.scope.names.lookup z = some .local) (ha : PA X [a, b, c] ta)
    (hw : swappedStores [.Tuple [.Name x px, .Name y py, .Name z pz] kt pt] (.Tuple [a, b, c] k2 pt2) X.env = pure (some [x, y, z]))
    (hs : swapsWithSole [.Tuple [.Name x px, .Name y py, .Name z pz] kt pt] (.Tuple [a, b, c] k2 pt2) pos.line X.env = pure false := by rfl) :
    PS X (.Assign [.Tuple [.Name x px, .Name y py, .Name z pz] kt pt] (.Tuple [a, b, c] k2 pt2) pos) (tPar3 i j k ta) := by
  intro pins s σ H D I h
  rw [exec_Assign_arm]
  refine wpAny_bind (wpAny_standAt ?_)
  rw [hs]
  refine wpAny_bind (wpAny_pure ?_)
  rw [if_neg (by decide)]
  refine wpAny_bind (Tuple_ (thn (ha _ pins s σ H _ I h) fun us s1 ⟨vs, H1, I1, r1, q1⟩ => ?_))
  obtain ⟨v, w, t, e1, q1⟩ := q1
  subst e1
  obtain ⟨u1, u2, u3, rfl, r1, r2, r3⟩ : ∃ u1 u2 u3, us = [u1, u2, u3] ∧ RelV v u1 ∧ RelV w u2 ∧ RelV t u3 := by
    cases r1 with
    | cons p q =>
      cases q with
      | cons p' q' =>
        cases q' with
        | cons p3 q3 => cases q3; exact ⟨_, _, _, rfl, p, p', p3⟩
  refine wpAny_newObj_type ?_ (by show 3 ≤ sizeLine; decide)
  have I2 : Inv X pins σ H1 { s1 with heap := s1.heap.push { cls := .type "tuple", data := .seq [u1, u2, u3].toArray } } := I1.kept (t' := s1.toks) fun b o e => Heap.get?_push_of_some _ e
  rw [hw]
  refine wpAny_bind (wpAny_pure ?_)
  show wpAny (model X.prog X.w) X.A (do rule "assign.swapped-stores"; let items ← unpackItems (.ref s1.heap.objs.size) 3 none; assignInOrder [fun v => bindName X.env z v, fun v => bindName X.env y v, fun v => bindName X.env x v] items.reverse; pure Flow.next) _ _ _
  refine wpAny_bind (wpAny_rule (wpAny_bind (unpackItems_tuple (items := #[u1, u2, u3]) (I.ok.hd hc) (IsTup.new s1.heap _) fun h' hx' => ?_)))
  have I3 := I2.kept (h' := h') (t' := s1.toks) fun b o e => hx' b o (Nat.ne_of_lt (Heap.lt_size e)) e
  show wpAny _ _ (assignInOrder [fun v => bindName X.env z v, fun v => bindName X.env y v, fun v => bindName X.env x v] [u3, u2, u1] >>= fun _ => pure Flow.next) _ _ _
  refine wpAny_bind (assignInOrder_cons (wpAny_bindName (store_ok I3 hN hk (.inl hz) r3 (fun s2 I4 => ?_) (.inr hz))))
  refine assignInOrder_cons (wpAny_bindName (store_ok I4 hN hj (.inl hy) r2 (fun s3 I5 => ?_) (.inr hy)))
  refine assignInOrder_cons (wpAny_bindName (store_ok I5 hN hi (.inl hx) r1 (fun s4 I6 => assignInOrder_nil (wpAny_pure ?_)) (.inr hx)))
  rw [List.set_comm _ _ (Ne.symm hij), List.set_comm _ _ (Ne.symm hik), List.set_comm _ _ (Ne.symm hjk)] at I6
  exact ⟨_, H1, by first | exact I6 | (rw [List.set_comm _ _ hij] at I6; exact I6) | (simpa [List.set_comm _ _ hij, List.set_comm _ _ hik, List.set_comm _ _ hjk] using I6), q1⟩
end
end L2

set_option Elab.async false
set_option linter.all false
set_option maxRecDepth 100000
set_option maxHeartbeats 4000000
/-! enumerate(list), unpacked -/
namespace L2
open PySem PySem.Spec PyProof.Rows
section
variable {X : Cx} {pins : List (Addr × Obj)} {σ : St} {H : Hp} {s : Shared}
theorem turn_enumL {P : Program} {w : World} {K : PySem.W.Frag} {es : List Expr} {x1} {pos : Pos} (e it a : Addr) (hei : e ≠ it) :
    Turn P w K (.Tuple es x1 pos) (Ite fun H xs => SqL K H a xs) [e, it] e (fun i h => (∃ old, IsEnum h e it i old) ∧ h.IsListIter it a i ∧ a ≠ it ∧ a ≠ e) where
  mem := by simp
  obj := fun i h st b hb => by
    obtain ⟨⟨old, he⟩, ⟨o, e1, c, d⟩, _⟩ := st
    rcases List.mem_cons.mp hb with z | z
    · subst z; exact ⟨_, he, fun v z => by cases z⟩
    · have z' := List.mem_singleton.mp z
      subst z'; exact ⟨o, e1, fun v z => by rw [d] at z; cases z⟩
  keep := fun i h h' st k => ⟨let ⟨old, he⟩ := st.1; ⟨old, k e (by simp) _ he⟩, st.2.1.at fun o q => k it (by simp) o q, st.2.2⟩
  item := by
    intro X hP hw hK hc i pins s σ H E I hf st hg
    subst hP hw hK
    obtain ⟨⟨old, he⟩, hit, hai, hae⟩ := st
    obtain ⟨xs, x, hq, hx⟩ := hg
    obtain ⟨its, rv, p, hz⟩ := I.list hq
    obtain ⟨u, hu, ru⟩ := rv.get hx
    have hlt : i < its.toArray.size := by
      rw [List.size_toArray]; exact (List.getElem?_eq_some_iff.mp hu).1
    refine wpAny_pyNext_enum_itemD (Draws.list (A := X.A.in1) (by simp [I.ok.hd hc]) it a hai its.toArray) he ⟨hit, p.isList⟩ hlt hei (by simp [hei, Ne.symm hae]) fun v h' tk hv ho hst' hT hsz hk => ?_
    have hv' : v = u := by
      have e1 : its[i]? = some v := by simpa using hv
      rw [hu] at e1; exact (Option.some.inj e1).symm
    subst hv'
    refine ⟨_, rfl, wpAny_letOwnedTupleGo_enum (s := { s with heap := h', toks := tk + 1 }) ho fun h2 he2 hs2 => ?_⟩
    have helt : e < s.heap.objs.size := Heap.lt_size he
    have hilt : it < s.heap.objs.size := by obtain ⟨_, q, _⟩ := hit; exact Heap.lt_size q
    have hTe : s.heap.objs.size ≠ e := Nat.ne_of_gt helt
    have hn : H s.heap.objs.size = none := I.hok.fresh (Nat.le_refl _)
    have kp : ∀ b o, b ∉ [e, it] → s.heap.get? b = some o → h2.get? b = some o := fun b o hb q => by
      have hbe : b ≠ e := fun z => hb (by simp [z])
      have hbi : b ≠ it := fun z => hb (by simp [z])
      exact (hs2.2 b hbe).trans (hk b o hbe hbi q)
    have hT2 : h2.get? s.heap.objs.size = some { cls := .type "tuple", data := .seq #[.int i tk, v] } := (hs2.2 _ hTe).trans hT
    have I2 : Inv X pins σ (upd H s.heap.objs.size (.tup [.int i, x])) { s with heap := h2, toks := tk + 1 } := I.turnLaid (fp := [e, it]) kp hf (Nat.le_refl _) ⟨by show 2 ≤ sizeLine; rw [sizeLine_eq]; decide, [.int i tk, v], .cons ⟨_, rfl⟩ (.cons ru .nil), ⟨_, hT2, rfl, _, rfl⟩⟩
    refine ⟨.ref s.heap.objs.size, _, I2, rfl, ⟨s.heap.objs.size, x, rfl, hn, rfl, fun ys hy => by rw [I.list_inj hy hq]; exact hx⟩, ⟨⟨_, by simpa using he2⟩, hst'.1.at fun o q => (hs2.2 it hei.symm).trans q, hai, hae⟩, fun b hb => ?_⟩
    have hbz : b ≠ s.heap.objs.size := by
      rcases List.mem_cons.mp hb with z | z
      · rw [z]; exact Nat.ne_of_lt helt
      · rw [List.mem_singleton.mp z]; exact Nat.ne_of_lt hilt
    rw [upd_ne hbz]; exact (hf b hb).1
  done := by
    intro X hP hw hK hc i pins s σ H E I hf st hg
    subst hP hw hK
    obtain ⟨⟨old, he⟩, hit, hai, hae⟩ := st
    obtain ⟨xs, hq, hx⟩ := hg
    obtain ⟨its, rv, p, hz⟩ := I.list hq
    have hl := rv.length
    have hi : its.toArray.size = i := by rw [List.size_toArray, ← hl, hx]
    refine wpAny_pyNext_enum_endD (Draws.list (A := X.A.in1) (by simp [I.ok.hd hc]) it a hai its.toArray) he (by rw [hi]; exact ⟨hit, p.isList⟩) fun h' hs' => ⟨rfl, ?_⟩
    exact I.turned (it := it) (t' := s.toks) (fun b o hb q => hs' b o hb q) (hf it (by simp)).1 (hf it (by simp)).2.1 (hf it (by simp)).2.2.2.1 (hf it (by simp)).2.2.2.2.1 (hf it (by simp)).2.2.2.2.2
  self := fun _ _ _ _ _ st h => let ⟨old, he⟩ := st.1; wpAny_pyIter_enum he h
def iEnumL (K : PySem.W.Frag) (ta : TA) : TI := fun σ H R => ta σ H fun vs H1 => ∃ a xs, vs = [.ref a] ∧ SqL K H1 a xs ∧ R (Ite fun H xs => SqL K H a xs) H1
theorem pi_enumL {a : Expr} {ta : TA} {p pos : Pos} {es : List Expr} {x1} {tpos : Pos} (hc : X.calm = true) (hg : Gl X "enumerate") (hm : X.mg "enumerate" = none) (ha : PA X [a] ta) (hs : starEach [a] X.env = [(false, eval a X.env)] := by rfl) :
    PI X (.Tuple es x1 tpos) (.Call (.Name "enumerate" p) [a] [] pos) (iEnumL X.K ta) := by
  intro pins s σ H R I h
  refine Call_ (ld_blt I hg hm boot_enumerate (PyProof.Rows.callWith_type1 (thn (ha pos pins s σ H _ I h) fun us s1 ⟨vs, H1, I1, r1, q1⟩ => ?_) hs rfl))
  obtain ⟨b, xs, e, hq, q⟩ := q1
  subst e
  obtain ⟨u, rfl, rx⟩ := vals1 r1
  cases rx
  obtain ⟨its, rv, pt, hz⟩ := I1.list hq
  have hblt : b < s1.heap.objs.size := by obtain ⟨o, ho, _⟩ := pt.isList; exact Heap.lt_size ho
  refine call_enumerate_list pt.isList fun h' he hit hsz hk => ?_
  refine wpAny_pyIter_enum (s := { s1 with heap := h' }) he ?_
  have I2 : Inv X pins σ H1 { s1 with heap := h' } := I1.kept (t' := s1.toks) hk
  refine ⟨s1.heap.objs.size + 1, [s1.heap.objs.size + 1, s1.heap.objs.size], _, _, H1, rfl, I2, turn_enumL _ _ b (Nat.succ_ne_self _), ⟨⟨_, he⟩, hit, Nat.ne_of_lt hblt, Nat.ne_of_lt (Nat.lt_succ_of_lt hblt)⟩, fun c hc' => ?_, q⟩
  have hge : s1.heap.objs.size ≤ c := by
    rcases List.mem_cons.mp hc' with z | z
    · rw [z]; exact Nat.le_succ _
    · rw [List.mem_singleton.mp z]; exact Nat.le_refl _
  exact I1.fpOk hge (I1.hok.fresh hge)

end
/-- a promise of nothing -/
theorem FnOk.never {P : Program} {w : World} {K : PySem.W.Frag} {mg : Str → Option Value} {base : Heap} {CX : CXT} {k : Nat} {f : Addr} {fd : FuncData} {ps : List Str} : FnOk P w K mg base CX k f fd ps (fun _ _ _ _ => False) :=
  ⟨fun _ _ _ _ h => h.elim, fun _ _ _ _ _ _ _ _ _ _ _ _ _ h => h.elim⟩

/-! ### argument lists, by the kind of the item: the rest stays a letter -/
section
variable {X : Cx} {es : List Expr} {te : TE} {t : TA}
theorem pa_c {c j pos} (he : PE X (.Constant c j pos) te) (hr : PA X es t) : PA X (.Constant c j pos :: es) (tCons te t) := pa_cons he hr rfl
theorem pa_v {x pos} (he : PE X (.Name x pos) te) (hr : PA X es t) : PA X (.Name x pos :: es) (tCons te t) := pa_cons he hr rfl
theorem pa_b {a o b pos} (he : PE X (.BinOp a o b pos) te) (hr : PA X es t) : PA X (.BinOp a o b pos :: es) (tCons te t) := pa_cons he hr rfl
theorem pa_u {o b pos} (he : PE X (.UnaryOp o b pos) te) (hr : PA X es t) : PA X (.UnaryOp o b pos :: es) (tCons te t) := pa_cons he hr rfl
theorem pa_k {f a k pos} (he : PE X (.Call f a k pos) te) (hr : PA X es t) : PA X (.Call f a k pos :: es) (tCons te t) := pa_cons he hr rfl
theorem pa_t {a k pos} (he : PE X (.Tuple a k pos) te) (hr : PA X es t) : PA X (.Tuple a k pos :: es) (tCons te t) := pa_cons he hr rfl
theorem pa_l {a pos} (he : PE X (.List a pos) te) (hr : PA X es t) : PA X (.List a pos :: es) (tCons te t) := pa_cons he hr rfl
theorem pa_s {a b pos} (he : PE X (.Subscript a b pos) te) (hr : PA X es t) : PA X (.Subscript a b pos :: es) (tCons te t) := pa_cons he hr rfl
theorem pa_i {a b c pos} (he : PE X (.IfExp a b c pos) te) (hr : PA X es t) : PA X (.IfExp a b c pos :: es) (tCons te t) := pa_cons he hr rfl
theorem pa_m {a b c pos} (he : PE X (.Compare a b c pos) te) (hr : PA X es t) : PA X (.Compare a b c pos :: es) (tCons te t) := pa_cons he hr rfl
theorem pa_d {a b pos} (he : PE X (.Dict a b pos) te) (hr : PA X es t) : PA X (.Dict a b pos :: es) (tCons te t) := pa_cons he hr rfl
theorem pa_lc {a b c pos} (he : PE X (.ListComp a b c pos) te) (hr : PA X es t) : PA X (.ListComp a b c pos :: es) (tCons te t) := pa_cons he hr rfl
end
/-! ### long argument lists: the list's judgement is closed, so that no row is looked into twice -/
@[irreducible] def PAq (X : Cx) (es : List Expr) (t : TA) : Prop := PA X es t
section
variable {X : Cx} {es : List Expr} {te : TE} {t : TA}
theorem pa_q (h : PAq X es t) : PA X es t := by unfold PAq at h; exact h
theorem pq_nil : PAq X [] tNil := by unfold PAq; exact pa_nil
theorem pq_s {x j pos} (hr : PAq X es t) : PAq X (.Constant (.str x) j pos :: es) (tCons (tC (.str x)) t) := by unfold PAq at *; exact pa_c pe_str hr
theorem pq_i {i j pos} (hr : PAq X es t) : PAq X (.Constant (.int i) j pos :: es) (tCons (tC (.int i)) t) := by unfold PAq at *; exact pa_c pe_int hr
theorem pq_tf {b j pos} (hr : PAq X es t) : PAq X (.Constant (.bool b) j pos :: es) (tCons (tC (.bl b)) t) := by unfold PAq at *; exact pa_c pe_bl hr
theorem pq_n {j pos} (hr : PAq X es t) : PAq X (.Constant .none j pos :: es) (tCons (tC .non) t) := by unfold PAq at *; exact pa_c pe_non hr
theorem pq_b {a o b pos} (he : PE X (.BinOp a o b pos) te) (hr : PAq X es t) : PAq X (.BinOp a o b pos :: es) (tCons te t) := by unfold PAq at *; exact pa_b he hr
theorem pq_u {o b pos} (he : PE X (.UnaryOp o b pos) te) (hr : PAq X es t) : PAq X (.UnaryOp o b pos :: es) (tCons te t) := by unfold PAq at *; exact pa_u he hr
theorem pq_k {f a k pos} (he : PE X (.Call f a k pos) te) (hr : PAq X es t) : PAq X (.Call f a k pos :: es) (tCons te t) := by unfold PAq at *; exact pa_k he hr
theorem pq_t {a k pos} (he : PE X (.Tuple a k pos) te) (hr : PAq X es t) : PAq X (.Tuple a k pos :: es) (tCons te t) := by unfold PAq at *; exact pa_t he hr
theorem pq_l {a pos} (he : PE X (.List a pos) te) (hr : PAq X es t) : PAq X (.List a pos :: es) (tCons te t) := by unfold PAq at *; exact pa_l he hr
end
@[irreducible] def PSsq (X : Cx) (st : List Stmt) (t : TS) : Prop := PSs X st t
section
variable {X : Cx} {es : List Expr} {t : TA} {tb : TE} {b : Expr} {p1 p2 p3 pos : Pos}
theorem pssq_of {st : List Stmt} {t : TS} (h : PSs X st t) : PSsq X st t := by unfold PSsq; exact h
theorem ps_ifq {c : Expr} {a b : List Stmt} {tc : TT} {t u : TS} (hc : PT X c tc) (ha : PSsq X a t) (hb : PSsq X b u) : PS X (.If c a b pos) (tIfS tc t u) := by unfold PSsq at ha hb; exact ps_if hc ha hb
/-- return [..][b] -/
theorem retq (h : PAq X es t) (hb : PE X b tb) (hs : PlainIx b) : PSsq X [.Return (some (.Subscript (.List es p1) b p2)) p3] (tRet (tOp (rIxL X.K) (tLst t) tb)) := by unfold PSsq; exact pss_one (ps_ret (pe_ix ix_list (pe_lst (pa_q h)) hb hs))
end
@[irreducible] def PEq (X : Cx) (e : Expr) (t : TE) : Prop := PE X e t
@[irreducible] def PSq (X : Cx) (st : Stmt) (t : TS) : Prop := PS X st t
section
variable {X : Cx} {es : List Expr} {t : TA} {te tb : TE} {b e : Expr} {p1 p2 p3 pos : Pos}
/-- [..][b] -/
theorem ixq (h : PAq X es t) (hb : PE X b tb) (hs : PlainIx b) : PEq X (.Subscript (.List es p1) b p2) (tOp (rIxL X.K) (tLst t) tb) := by unfold PEq; exact pe_ix ix_list (pe_lst (pa_q h)) hb hs
theorem pq_sq {a b pos} (he : PEq X (.Subscript a b pos) te) (hr : PAq X es t) : PAq X (.Subscript a b pos :: es) (tCons te t) := by unfold PEq at he; unfold PAq at *; exact pa_s he hr
theorem pss_consq {st : Stmt} {rest : List Stmt} {t u : TS} (h1 : PSq X st t) (h2 : PSs X rest u) : PSs X (st :: rest) (tSeq t u) := by unfold PSq at h1; exact pss_cons h1 h2
/-- x = [..][b] -/
theorem ps_setq {i : Nat} {x : Str} {pos' : Pos} (hN : X.N.Nodup) (hi : X.N[i]? = some x) (hx : Loc X.env.scope x) (h : PAq X es t) (hb : PE X b tb) (hp : PlainIx b) (hs : swapsWith (.Subscript (.List es p1) b p2) (some (.Name x pos')) pos.line X.env = pure false := by rfl)
    (hf : X.fn x = true ∨ X.env.scope.names.lookup x = some .local := by first | exact .inl rfl | exact .inr rfl | assumption) : PSq X (.Assign [.Name x pos'] (.Subscript (.List es p1) b p2) pos) (tAsg (tOp (rIxL X.K) (tLst t) tb) (gName i)) := by
  unfold PSq; exact ps_set hN hi hx (pe_ix ix_list (pe_lst (pa_q h)) hb hp) hs hf
end
section
variable {X : Cx} {es : List Expr} {t : TA} {te : TE} {e : Expr} {p1 p3 : Pos}
theorem tupq {k} (h : PAq X es t) : PEq X (.Tuple es k p1) (tTup t) := by unfold PEq; exact pe_tup (pa_q h)
theorem lstq (h : PAq X es t) : PEq X (.List es p1) (tLst t) := by unfold PEq; exact pe_lst (pa_q h)
theorem pq_tq {a k pos} (he : PEq X (.Tuple a k pos) te) (hr : PAq X es t) : PAq X (.Tuple a k pos :: es) (tCons te t) := by unfold PEq at he; unfold PAq at *; exact pa_t he hr
theorem pq_lq {a pos} (he : PEq X (.List a pos) te) (hr : PAq X es t) : PAq X (.List a pos :: es) (tCons te t) := by unfold PEq at he; unfold PAq at *; exact pa_l he hr
theorem retE (h : PEq X e te) : PSsq X [.Return (some e) p3] (tRet te) := by unfold PEq at h; unfold PSsq; exact pss_one (ps_ret h)
theorem pss_cons2q {st : Stmt} {rest : List Stmt} {t u : TS} (h1 : PS X st t) (h2 : PSsq X rest u) : PSs X (st :: rest) (tSeq t u) := by unfold PSsq at h2; exact pss_cons h1 h2
end
end L2

set_option Elab.async false
set_option linter.all false
set_option maxRecDepth 100000
set_option maxHeartbeats 4000000
/-! VALUES OF ANY KIND: what is known of them, to a depth -/
namespace L2
open PySem PySem.Spec PyProof.Rows

/-- known to depth n -/
def Kn (H : Hp) : Nat → V → Prop
  | 0, _ => True
  | n + 1, v => match v with
    | .non => True
    | .bl _ => True
    | .int _ => True
    | .str _ => True
    | .ref a => (∃ xs, H a = some (.lst xs)) ∨ (∃ kvs, H a = some (.dK kvs)) ∨ ∃ xs, H a = some (.tup xs) ∧ xs.length ≤ 1000 ∧ ∀ x ∈ xs, Kn H n x
    | _ => False
def KnA (H : Hp) (v : V) : Prop := ∀ n, Kn H n v
/-- tuples and dicts stay, lists stay lists -/
structure Ext (H H' : Hp) : Prop where
  tup : ∀ a xs, H a = some (.tup xs) → H' a = some (.tup xs)
  lst : ∀ a xs, H a = some (.lst xs) → ∃ ys, H' a = some (.lst ys)
  dct : ∀ a kvs, H a = some (.dK kvs) → H' a = some (.dK kvs)
theorem Ext.refl (H : Hp) : Ext H H := ⟨fun _ _ h => h, fun _ xs h => ⟨xs, h⟩, fun _ _ h => h⟩
theorem Ext.trans {H H1 H2 : Hp} (a : Ext H H1) (b : Ext H1 H2) : Ext H H2 := ⟨fun _ _ h => b.tup _ _ (a.tup _ _ h), fun _ _ h => let ⟨_, e⟩ := a.lst _ _ h; b.lst _ _ e, fun _ _ h => b.dct _ _ (a.dct _ _ h)⟩
theorem Same.ext {H H' : Hp} (s : Same H H') : Ext H H' := ⟨fun _ _ h => s _ _ h, fun _ xs h => ⟨xs, s _ _ h⟩, fun _ _ h => s _ _ h⟩
theorem Kn.ext {H H' : Hp} (e : Ext H H') : ∀ {n : Nat} {v : V}, Kn H n v → Kn H' n v
  | 0, _, _ => True.intro
  | n + 1, v, h => by
    cases v with
    | ref a =>
      rcases h with ⟨xs, h⟩ | ⟨kvs, h⟩ | ⟨xs, h, hl, hx⟩
      · exact .inl (e.lst _ _ h)
      · exact .inr (.inl ⟨kvs, e.dct _ _ h⟩)
      · exact .inr (.inr ⟨xs, e.tup _ _ h, hl, fun x hm => Kn.ext e (hx x hm)⟩)
    | _ => exact h
theorem KnA.ext {H H' : Hp} {v : V} (h : KnA H v) (e : Ext H H') : KnA H' v := fun n => (h n).ext e
theorem Kn.le {H : Hp} : ∀ {n m : Nat} {v : V}, n ≤ m → Kn H m v → Kn H n v
  | 0, _, _, _, _ => True.intro
  | n + 1, 0, _, h, _ => absurd h (by omega)
  | n + 1, m + 1, v, h, k => by
    cases v with
    | ref a =>
      rcases k with ⟨xs, k⟩ | ⟨kvs, k⟩ | ⟨xs, k, hl, hx⟩
      · exact .inl ⟨xs, k⟩
      · exact .inr (.inl ⟨kvs, k⟩)
      · exact .inr (.inr ⟨xs, k, hl, fun x hm => Kn.le (by omega) (hx x hm)⟩)
    | _ => exact k
theorem KnA.int {H : Hp} (i : Int) : KnA H (.int i) := fun n => by cases n <;> exact True.intro
theorem KnA.bl {H : Hp} (b : Bool) : KnA H (.bl b) := fun n => by cases n <;> exact True.intro
theorem KnA.non {H : Hp} : KnA H .non := fun n => by cases n <;> exact True.intro
theorem KnA.str {H : Hp} (x : Str) : KnA H (.str x) := fun n => by cases n <;> exact True.intro
theorem KnA.lst {H : Hp} {a : Addr} {xs : List V} (h : H a = some (.lst xs)) : KnA H (.ref a) := fun n => by cases n with | zero => exact True.intro | succ n => exact .inl ⟨xs, h⟩
theorem KnA.dct {H : Hp} {a : Addr} {kvs : List (Key × V)} (h : H a = some (.dK kvs)) : KnA H (.ref a) := fun n => by cases n with | zero => exact True.intro | succ n => exact .inr (.inl ⟨kvs, h⟩)
theorem KnA.tup {H : Hp} {a : Addr} {xs : List V} (h : H a = some (.tup xs)) (hl : xs.length ≤ 1000) (hx : ∀ x ∈ xs, KnA H x) : KnA H (.ref a) := fun n => by
  cases n with
  | zero => exact True.intro
  | succ n => exact .inr (.inr ⟨xs, h, hl, fun x hm => hx x hm n⟩)
theorem Kn.items {H : Hp} {n : Nat} {a : Addr} {xs : List V} (k : Kn H (n + 1) (.ref a)) (h : H a = some (.tup xs)) : xs.length ≤ 1000 ∧ ∀ x ∈ xs, Kn H n x := by
  rcases k with ⟨ys, k⟩ | ⟨kvs, k⟩ | ⟨ys, k, hl, hx⟩
  · rw [h] at k; cases k
  · rw [h] at k; cases k
  · rw [h] at k; cases k; exact ⟨hl, hx⟩

/-! ### kinds -/
def isInt : V → Bool | .int _ => true | _ => false
def isBl : V → Bool | .bl _ => true | _ => false
/-- the items of a tuple -/
def tupOf (H : Hp) : V → Option (List V)
  | .ref a => match H a with | some (.tup xs) => some xs | _ => none
  | _ => none
theorem tupOf_of {H : Hp} {a : Addr} {xs : List V} (h : H a = some (.tup xs)) : tupOf H (.ref a) = some xs := by simp [tupOf, h]
theorem of_tupOf {H : Hp} {v : V} {xs : List V} (h : tupOf H v = some xs) : ∃ a, v = .ref a ∧ H a = some (.tup xs) := by
  cases v with
  | ref a =>
    unfold tupOf at h
    cases e : H a with
    | none => simp [e] at h
    | some o => cases o <;> simp [e] at h; subst h; exact ⟨a, rfl, e⟩
  | _ => simp [tupOf] at h

section
variable {K : PySem.W.Frag}
theorem kit_same (T : String) : PySem.W.kitOne K (.type T) (.type T) = some true := by unfold PySem.W.kitOne; rw [if_pos (by simp)]
theorem ty_of {H : Hp} {v : V} (k : Kn H 1 v) : ∃ t, TyOf K H v t ∧ PySem.W.kitOne K t (.type "int") = some (isInt v || isBl v) ∧ PySem.W.kitOne K t (.type "bool") = some (isBl v) ∧ PySem.W.kitOne K t (.type "tuple") = some (tupOf H v).isSome := by
  cases v with
  | non => exact ⟨_, .non, by kernel_rfl, by kernel_rfl, by kernel_rfl⟩
  | bl b => exact ⟨_, .bl b, by kernel_rfl, by kernel_rfl, by kernel_rfl⟩
  | int i => exact ⟨_, .int i, by kernel_rfl, by kernel_rfl, by kernel_rfl⟩
  | str x => exact ⟨_, .str x, by kernel_rfl, by kernel_rfl, by kernel_rfl⟩
  | ref a =>
    rcases k with ⟨xs, k⟩ | ⟨kvs, k⟩ | ⟨xs, k, hl, hx⟩
    · refine ⟨_, .lst k, by kernel_rfl, by kernel_rfl, ?_⟩
      have : (tupOf H (.ref a)).isSome = false := by simp [tupOf, k]
      rw [this]; kernel_rfl
    · refine ⟨_, .dK k, by kernel_rfl, by kernel_rfl, ?_⟩
      have : (tupOf H (.ref a)).isSome = false := by simp [tupOf, k]
      rw [this]; kernel_rfl
    · refine ⟨_, .tup k, by kernel_rfl, by kernel_rfl, ?_⟩
      have : (tupOf H (.ref a)).isSome = true := by simp [tupOf, k]
      rw [this]; kernel_rfl
  | _ => exact (show False from k).elim
end

/-! ### meads -/
def numIn (lo hi : Int) : V → Bool | .int i => decide (lo ≤ i) && decide (i ≤ hi) | _ => false
def rowOk (H : Hp) (v : V) : Bool := match tupOf H v with
  | some xs => decide (1 ≤ xs.length) && decide (xs.length ≤ 6) && xs.all (numIn (-2) 99)
  | none => false
def nonneg : V → Bool | .int i => decide (0 ≤ i) | _ => false
def lenOf (H : Hp) (v : V) : Nat := ((tupOf H v).getD []).length
def cellsIn (H : Hp) (v : V) : Nat := (((tupOf H v).getD []).filter nonneg).length
def goodM (H : Hp) (v : V) : Bool := match tupOf H v with
  | none => false
  | some rows => decide (1 ≤ rows.length) && decide (rows.length ≤ 4) && rows.all (rowOk H) && rows.all (fun r => decide (lenOf H r = lenOf H (rows.headD .non))) &&
      (decide (1 ≤ (rows.map (cellsIn H)).sum) && decide ((rows.map (cellsIn H)).sum ≤ 10))
theorem Same.tupOf {H H' : Hp} (s : Same H H') {v : V} (k : Kn H 1 v) : L2.tupOf H' v = L2.tupOf H v := by
  cases v with
  | ref a =>
    rcases k with ⟨xs, k⟩ | ⟨kvs, k⟩ | ⟨xs, k, _⟩
    · simp [L2.tupOf, k, s _ _ k]
    · simp [L2.tupOf, k, s _ _ k]
    · simp [L2.tupOf, k, s _ _ k]
  | _ => rfl
theorem Same.rowOk {H H' : Hp} (s : Same H H') {v : V} (k : Kn H 1 v) : L2.rowOk H' v = L2.rowOk H v := by unfold L2.rowOk; rw [s.tupOf k]
theorem Same.good {H H' : Hp} (s : Same H H') {v : V} (k : Kn H 2 v) : goodM H' v = goodM H v := by
  unfold goodM
  rw [s.tupOf (k.le (by omega))]
  cases e : L2.tupOf H v with
  | none => rfl
  | some rows =>
    obtain ⟨a, rfl, ha⟩ := of_tupOf e
    obtain ⟨_, hx⟩ := k.items ha
    have h1 : rows.all (L2.rowOk H') = rows.all (L2.rowOk H) := by
      rw [Bool.eq_iff_iff, List.all_eq_true, List.all_eq_true]
      exact ⟨fun h x hm => by rw [← s.rowOk (hx x hm)]; exact h x hm, fun h x hm => by rw [s.rowOk (hx x hm)]; exact h x hm⟩
    have hl : ∀ x ∈ rows, lenOf H' x = lenOf H x := fun x hm => by unfold lenOf; rw [s.tupOf (hx x hm)]
    have hc : rows.map (cellsIn H') = rows.map (cellsIn H) := List.map_congr_left fun x hm => by unfold cellsIn; rw [s.tupOf (hx x hm)]
    have hh : lenOf H' (rows.headD .non) = lenOf H (rows.headD .non) := by
      cases rows with
      | nil => rfl
      | cons r rs => exact hl r List.mem_cons_self
    have h2 : rows.all (fun r => decide (lenOf H' r = lenOf H' (rows.headD .non))) = rows.all (fun r => decide (lenOf H r = lenOf H (rows.headD .non))) := by
      rw [Bool.eq_iff_iff, List.all_eq_true, List.all_eq_true]
      exact ⟨fun h x hm => by rw [← hl x hm, ← hh]; exact h x hm, fun h x hm => by rw [hl x hm, hh]; exact h x hm⟩
    dsimp only
    rw [h1, h2, hc]

/-! ### pens -/
def PenAt (H : Hp) (p : Addr) : Prop := ∃ x f : Int, H p = some (.lst [.int x, .int f])
structure Stp (p : Addr) (H H' : Hp) : Prop where
  pen : PenAt H' p
  keep : ∀ b o, b ≠ p → H b = some o → H' b = some o
theorem Stp.refl {p : Addr} {H : Hp} (h : PenAt H p) : Stp p H H := ⟨h, fun _ _ _ e => e⟩
theorem Stp.trans {p : Addr} {H H1 H2 : Hp} (a : Stp p H H1) (b : Stp p H1 H2) : Stp p H H2 := ⟨b.pen, fun c o h e => b.keep c o h (a.keep c o h e)⟩
theorem Stp.same {p : Addr} {H H1 H2 : Hp} (a : Stp p H H1) (s : Same H1 H2) : Stp p H H2 := ⟨let ⟨x, f, e⟩ := a.pen; ⟨x, f, s _ _ e⟩, fun b o h e => s _ _ (a.keep b o h e)⟩
theorem PenAt.ne {H : Hp} {p b : Addr} {o : HO} (h : PenAt H p) (e : H b = some o) (n : ∀ xs, o ≠ .lst xs) : b ≠ p := fun z => by
  obtain ⟨x, f, e2⟩ := h
  rw [z, e2] at e
  cases e
  exact n _ rfl
theorem Stp.ext {p : Addr} {H H' : Hp} (h : PenAt H p) (s : Stp p H H') : Ext H H' where
  tup := fun a xs e => s.keep a _ (h.ne e (by intro z; simp)) e
  lst := fun a xs e => by
    by_cases ha : a = p
    · obtain ⟨x, f, e2⟩ := s.pen
      exact ⟨_, by rw [ha]; exact e2⟩
    · exact ⟨xs, s.keep a _ ha e⟩
  dct := fun a kvs e => s.keep a _ (h.ne e (by intro z; simp)) e
end L2

set_option Elab.async false
set_option linter.all false
set_option maxRecDepth 100000
set_option maxHeartbeats 4000000
/-! FORMS OF COMPREHENSIONS; short words -/
namespace L2
open PySem PySem.Spec PyProof.Rows

/-- [f(x) for x in t], the heap but growing -/
theorem comp_map {K : PySem.W.Frag} {a l : Addr} {xs : List V} {te : TE} {H0 : Hp} {rest : St} {Q : St → Hp → Prop} (f : V → V) (ha : H0 a = some (.tup xs)) (hl : H0 l = none) (hz : xs.length ≤ 1000)
    (turn : ∀ x H' Q', x ∈ xs → Same H0 H' → (∀ H2, Same H' H2 → Q' (f x) H2) → te (some x :: rest) H' Q') (hQ : ∀ σ H', Same H0 H' → H' l = some (.lst (xs.map f)) → Q σ H') :
    tForJ (Itt K a) (gName 0) (tBodyC tAll (tEmit l te)) (eC Q) (none :: rest) (upd H0 l (.lst [])) := by
  have s0 : Same H0 (upd H0 l (.lst [])) := same_upd hl
  refine for_tup (K := K) (a := a) (xs := xs) (fun i σ H' => (∃ o, σ = o :: rest) ∧ Same H0 H' ∧ H' l = some (.lst ((xs.take i).map f))) ⟨⟨_, rfl⟩, s0, by rw [upd_same]; rfl⟩ (fun i σ H' _ h => SqT.of (h.2.1 _ _ ha)) ?_ ?_
  · rintro i x σ H' hx ⟨⟨o, rfl⟩, hs, hl'⟩
    show tEmit l te (some x :: rest) H' _
    refine turn x H' _ (List.mem_of_getElem? hx) hs fun H2 h2 => ?_
    refine ⟨_, h2 _ _ hl', ?_, ⟨_, rfl⟩, fun b u e => ?_, ?_⟩
    · rw [List.length_map, List.length_take]
      exact small1000 (by omega)
    · rw [upd_ne (ne_of_none e hl)]; exact h2 _ _ (hs _ _ e)
    · rw [upd_same, List.take_succ, hx, List.map_append]; rfl
  · rintro σ H' ⟨_, hs, hl'⟩
    rw [List.take_of_length_le (Nat.le_refl _)] at hl'
    exact hQ σ H' hs hl'
/-- a clause without tests -/
theorem body_all {tb : TC} {D : Ends} {σ : St} {H : Hp} (h : tb σ H D.nx) : tBodyC tAll tb D σ H := by
  show (if true = true then tb σ H D.nx else D.nx σ H)
  exact iteT h
theorem body_name {i : Nat} {v : V} {tb : TC} {D : Ends} {σ : St} {H : Hp} (h : tb (σ.set i (some v)) H D.nx) : gName i v σ H (fun σ2 H2 => tBodyC tAll tb D σ2 H2) := body_all h
/-- ite over a known bool -/
theorem iteB {b : Bool} {A B : Prop} (h1 : b = true → A) (h2 : b = false → B) : if b = true then A else B := by
  cases b with
  | true => exact iteT (h1 rfl)
  | false => exact iteF (h2 rfl)
theorem ite2d {c : Prop} [Decidable c] {A B : Prop} (h1 : c → A) (h2 : ¬ c → B) : if decide c = true then A else B := by
  by_cases h : c
  · rw [decide_eq_true h]; exact iteT (h1 h)
  · rw [decide_eq_false h]; exact iteF (h2 h)
end L2

set_option Elab.async false
set_option linter.all false
set_option maxRecDepth 100000
set_option maxHeartbeats 4000000
/-! THE PLACES OF CELLS -/
namespace L2
open PySem PySem.Spec PyProof.Rows
def rowCells (at' : Nat) (xs : List V) : List (Int × Int) := xs.zipIdx.filterMap fun p => if nonneg p.1 then some ((at' : Int), (p.2 : Int)) else none
def allCells (H : Hp) (rows : List V) : List (Int × Int) := (rows.zipIdx.map fun p => rowCells p.2 ((tupOf H p.1).getD [])).flatten
theorem zipIdx_take {α : Type} (xs : List α) (i : Nat) (x : α) (h : xs[i]? = some x) : (xs.take (i + 1)).zipIdx = (xs.take i).zipIdx ++ [(x, i)] := by
  have hlt : i < xs.length := (List.getElem?_eq_some_iff.mp h).1
  rw [List.take_succ, h, List.zipIdx_append]
  simp
  omega
theorem rowCells_succ (at' : Nat) (xs : List V) (i : Nat) (x : V) (h : xs[i]? = some x) : rowCells at' (xs.take (i + 1)) = rowCells at' (xs.take i) ++ (if nonneg x then [((at' : Int), (i : Int))] else []) := by
  unfold rowCells
  rw [zipIdx_take xs i x h, List.filterMap_append]
  congr 1
  by_cases hn : nonneg x = true
  · simp [hn]
  · simp [hn]
theorem allCells_succ (H : Hp) (rows : List V) (i : Nat) (r : V) (h : rows[i]? = some r) : allCells H (rows.take (i + 1)) = allCells H (rows.take i) ++ rowCells i ((tupOf H r).getD []) := by
  unfold allCells
  rw [zipIdx_take rows i r h, List.map_append, List.flatten_append]
  simp
theorem rowCells_length (at' : Nat) (xs : List V) : (rowCells at' xs).length = (xs.filter nonneg).length := by
  unfold rowCells
  have go : ∀ (xs : List V) (n : Nat), ((xs.zipIdx n).filterMap fun p => if nonneg p.1 then some ((at' : Int), (p.2 : Int)) else none).length = (xs.filter nonneg).length := by
    intro xs
    induction xs with
    | nil => intro n; rfl
    | cons x xs ih =>
      intro n
      rw [List.zipIdx_cons]
      by_cases hn : nonneg x = true
      · rw [List.filterMap_cons_some (b := ((at' : Int), (n : Int))) (by simp [hn]), List.filter_cons_of_pos hn, List.length_cons, List.length_cons, ih]
      · rw [List.filterMap_cons_none (by simp [hn]), List.filter_cons_of_neg hn, ih]
  exact go xs 0
theorem allCells_length (H : Hp) (rows : List V) : (allCells H rows).length = (rows.map (cellsIn H)).sum := by
  unfold allCells
  rw [List.length_flatten, List.map_map]
  have go : ∀ (rows : List V) (n : Nat), ((rows.zipIdx n).map (List.length ∘ fun p => rowCells p.2 ((tupOf H p.1).getD []))).sum = (rows.map (cellsIn H)).sum := by
    intro rows
    induction rows with
    | nil => intro n; rfl
    | cons r rows ih =>
      intro n
      rw [List.zipIdx_cons, List.map_cons, List.sum_cons, List.map_cons, List.sum_cons, ih]
      congr 1
      exact rowCells_length _ _
  exact go rows 0
/-- at ps stand the places cs -/
def PlAt (H : Hp) (ps : List Addr) (cs : List (Int × Int)) : Prop := Paired (fun p c => H p = some (.tup [.int c.1, .int c.2])) ps cs
theorem PlAt.same {H H' : Hp} {ps : List Addr} {cs : List (Int × Int)} (h : PlAt H ps cs) (s : Same H H') : PlAt H' ps cs := Paired.mapP h fun _ _ e => s _ _ e
theorem PlAt.snoc {H : Hp} {ps : List Addr} {cs : List (Int × Int)} {p : Addr} {c : Int × Int} (h : PlAt H ps cs) (e : H p = some (.tup [.int c.1, .int c.2])) : PlAt H (ps ++ [p]) (cs ++ [c]) := Paired.snoc h e
/-- rows of numbers -/
def RowsAt (H : Hp) (rows : List V) : Prop := rows.length ≤ 4 ∧ ∀ r ∈ rows, ∃ b xs, r = .ref b ∧ H b = some (.tup xs) ∧ xs.length ≤ 6 ∧ ∀ x ∈ xs, ∃ i, x = .int i
theorem RowsAt.same {H H' : Hp} {rows : List V} (h : RowsAt H rows) (s : Same H H') : RowsAt H' rows := ⟨h.1, fun r hr => let ⟨b, xs, e, hb, hl, hx⟩ := h.2 r hr; ⟨b, xs, e, s _ _ hb, hl, hx⟩⟩

/-- [(at, k) for at, row in enumerate(mead) for k, mark in enumerate(row) if TEST]: the loops, the test by its numbers -/
theorem comp_cells {K : PySem.W.Frag} {a l : Addr} {rows : List V} {H0 : Hp} {tt2 : TT} {Q : St → Hp → Prop} (ha : H0 a = some (.tup rows)) (hl : H0 l = none) (hr : RowsAt H0 rows)
    (htt : ∀ (at' k : Nat) (r : V) (i : Int) H' (Q' : Bool → Hp → Prop), Q' (nonneg (.int i)) H' → tt2 [some (.int at'), some r, some (.int k), some (.int i)] H' Q')
    (hQ : ∀ σ H' ps, Same H0 H' → H' l = some (.lst (ps.map V.ref)) → PlAt H' ps (allCells H0 rows) → Q σ H') :
    tForJ (Ite fun H xs => SqT K H a xs) (gTup K 2 (gCons (gName 0) (gCons (gName 1) gNil))) (tBodyC tAll (tNest (iEnumT K (tCons (tVar 1) tNil)) (gTup K 2 (gCons (gName 2) (gCons (gName 3) gNil))) tt2 (tEmit l (tTup (tCons (tVar 0) (tCons (tVar 2) tNil)))))) (eC Q) [none, none, none, none] (upd H0 l (.lst [])) := by
  have s0 : Same H0 (upd H0 l (.lst [])) := same_upd hl
  refine for_enum (xs := rows) (fun i σ H' => σ.length = 4 ∧ Same H0 H' ∧ ∃ ps, H' l = some (.lst (ps.map V.ref)) ∧ PlAt H' ps (allCells H0 (rows.take i)) ∧ ps.length ≤ 6 * i) ⟨rfl, s0, [], by rw [upd_same]; rfl, .nil, Nat.zero_le _⟩ (fun i σ H' _ h => SqT.of (h.2.1 _ _ ha)) ?_ ?_
  · rintro i r p σ H' hx ⟨hσ, hs, ps, hl', hP, hn⟩ hp
    obtain ⟨b, xs, rfl, hb, hx6, hxi⟩ := hr.2 r (List.mem_of_getElem? hx)
    have hi4 : i < 4 := Nat.lt_of_lt_of_le (List.getElem?_eq_some_iff.mp hx).1 hr.1
    have s1 : Same H' (upd H' p (.tup [.int i, .ref b])) := same_upd hp
    have hb1 : tupOf H0 (.ref b) = some xs := tupOf_of hb
    match σ, hσ with
    | [x0, x1, x2, x3], _ =>
    refine ⟨p, _, rfl, SqT.of upd_same, rfl, _, _, rfl, _, _, rfl, rfl, ?_⟩
    refine body_all ?_
    refine ⟨_, rfl, b, xs, rfl, SqT.of (s1 _ _ (hs _ _ hb)), ?_⟩
    refine for_enum (xs := xs) (fun j σ H2 => (∃ y2 y3, σ = [some (.int i), some (.ref b), y2, y3]) ∧ Same H0 H2 ∧ ∃ ps, H2 l = some (.lst (ps.map V.ref)) ∧ PlAt H2 ps (allCells H0 (rows.take i) ++ rowCells i (xs.take j)) ∧ ps.length ≤ 6 * i + j) ?_ (fun j σ H2 _ h => SqT.of (h.2.1 _ _ hb)) ?_ ?_
    · exact ⟨⟨x2, x3, rfl⟩, hs.trans s1, ps, s1 _ _ hl', by simpa [rowCells] using hP.same s1, hn⟩
    · rintro j x p2 σ H2 hxj ⟨⟨y2, y3, rfl⟩, hs2, ps2, hl2, hP2, hn2⟩ hp2
      obtain ⟨z, rfl⟩ := hxi x (List.mem_of_getElem? hxj)
      have hj6 : j < 6 := Nat.lt_of_lt_of_le (List.getElem?_eq_some_iff.mp hxj).1 hx6
      have s2 : Same H2 (upd H2 p2 (.tup [.int j, .int z])) := same_upd hp2
      refine ⟨p2, _, rfl, SqT.of upd_same, rfl, _, _, rfl, _, _, rfl, rfl, ?_⟩
      refine htt i j (.ref b) z _ _ (iteB (fun e => ?_) fun e => ?_)
      · refine ⟨_, rfl, _, rfl, (by show 2 ≤ sizeLine; decide), fun q hq => ?_⟩
        have s3 := same_upd (o := .tup [.int i, .int j]) hq
        have hlq : l ≠ q := ne_of_none (s2 _ _ hl2) hq
        refine ⟨_, s3 _ _ (s2 _ _ hl2), small1000 (by rw [List.length_map]; omega), ⟨_, _, rfl⟩, fun b' u e' => ?_, ps2 ++ [q], ?_, ?_, ?_⟩
        · rw [upd_ne (ne_of_none e' hl)]; exact s3 _ _ (s2 _ _ (hs2 _ _ e'))
        · rw [upd_same, List.map_append]; rfl
        · have hne : ∀ b' u, (upd (upd H2 p2 (.tup [.int j, .int z])) q (.tup [.int i, .int j])) b' = some (.tup u) → (upd (upd (upd H2 p2 (.tup [.int j, .int z])) q (.tup [.int i, .int j])) l (.lst (ps2.map V.ref ++ [.ref q]))) b' = some (.tup u) := fun b' u e' => by
            rw [upd_ne (fun z' => ?_)]; exact e'
            rw [z', upd_ne hlq, s2 _ _ hl2] at e'; cases e'
          rw [rowCells_succ i xs j _ hxj, if_pos e, ← List.append_assoc]
          exact PlAt.snoc (Paired.mapP ((hP2.same s2).same s3) fun _ _ e' => hne _ _ e') (hne _ _ upd_same)
        · rw [List.length_append]; show ps2.length + 1 ≤ _; omega
      · refine ⟨⟨_, _, rfl⟩, hs2.trans s2, ps2, s2 _ _ hl2, ?_, by omega⟩
        rw [rowCells_succ i xs j _ hxj, if_neg (by rw [e]; decide), List.append_nil]
        exact hP2.same s2
    · rintro σ H2 ⟨⟨y2, y3, rfl⟩, hs2, ps2, hl2, hP2, hn2⟩
      refine ⟨rfl, hs2, ps2, hl2, ?_, by omega⟩
      rw [List.take_of_length_le (Nat.le_refl _)] at hP2
      rw [allCells_succ H0 rows i _ hx, hb1]
      exact hP2
  · rintro σ H' ⟨_, hs, ps, hl', hP, _⟩
    rw [List.take_of_length_le (Nat.le_refl _)] at hP
    exact hQ σ H' ps hs hl' hP
end L2

set_option Elab.async false
set_option linter.all false
set_option maxRecDepth 100000
set_option maxHeartbeats 4000000
namespace L2
open PySem PySem.Spec PyProof.Rows
theorem Ext.updL {H : Hp} {l : Addr} {xs ys : List V} (h : H l = some (.lst xs)) : Ext H (upd H l (.lst ys)) where
  tup := fun a zs e => by rw [upd_ne (ne_of e h (by simp))]; exact e
  lst := fun a zs e => by
    by_cases ha : a = l
    · exact ⟨ys, by rw [ha, upd_same]⟩
    · exact ⟨zs, by rw [upd_ne ha]; exact e⟩
  dct := fun a zs e => by rw [upd_ne (ne_of e h (by simp))]; exact e
theorem Stp.updL {p l : Addr} {H H1 : Hp} {ys : List V} (s : Stp p H H1) (hl : H l = none) (hp : PenAt H p) : Stp p H (upd H1 l (.lst ys)) := by
  obtain ⟨x, f, e⟩ := hp
  have hne : p ≠ l := ne_of_none e hl
  obtain ⟨x', f', e'⟩ := s.pen
  exact ⟨⟨x', f', by rw [upd_ne hne]; exact e'⟩, fun b o hb h => by rw [upd_ne (ne_of_none h hl)]; exact s.keep b o hb h⟩
/-- [(at, one) for at, one in enumerate(xs)] -/
theorem comp_pairs {K : PySem.W.Frag} {S : Hp → List V → Prop} {l : Addr} {xs : List V} {H0 : Hp} {Q : St → Hp → Prop} (hS : ∀ H', Same H0 H' → S H' xs) (hl : H0 l = none) (hz : xs.length ≤ 1000)
    (hQ : ∀ σ H' (ps : List Addr), Same H0 H' → H' l = some (.lst (ps.map V.ref)) → ps.length = xs.length → (∀ (j : Nat) (q : Addr) (v : V), ps[j]? = some q → xs[j]? = some v → H' q = some (.tup [.int j, v])) → Q σ H') :
    tForJ (Ite S) (gTup K 2 (gCons (gName 0) (gCons (gName 1) gNil))) (tBodyC tAll (tEmit l (tTup (tCons (tVar 0) (tCons (tVar 1) tNil))))) (eC Q) [none, none] (upd H0 l (.lst [])) := by
  refine for_enum (xs := xs) (fun i σ H' => σ.length = 2 ∧ Same H0 H' ∧ ∃ ps : List Addr, H' l = some (.lst (ps.map V.ref)) ∧ ps.length = i ∧ ∀ (j : Nat) (q : Addr) (v : V), ps[j]? = some q → xs[j]? = some v → H' q = some (.tup [.int j, v]))
    ⟨rfl, same_upd hl, [], by rw [upd_same]; rfl, rfl, fun j q v h => by simp at h⟩ (fun i σ H' _ h => hS H' h.2.1) ?_ ?_
  · rintro i x p σ H' hx ⟨hσ, hs, ps, hl', hn, hP⟩ hp
    have hi : i < xs.length := (List.getElem?_eq_some_iff.mp hx).1
    match σ, hσ with
    | [x0, x1], _ =>
    have s1 : Same H' (upd H' p (.tup [.int i, x])) := same_upd hp
    refine ⟨p, _, rfl, SqT.of upd_same, rfl, _, _, rfl, _, _, rfl, rfl, ?_⟩
    refine body_all ?_
    refine ⟨_, rfl, _, rfl, (by show 2 ≤ sizeLine; decide), fun q hq => ?_⟩
    have s2 := same_upd (o := .tup [.int i, x]) hq
    have hlq : l ≠ q := ne_of_none (s1 _ _ hl') hq
    refine ⟨_, s2 _ _ (s1 _ _ hl'), small1000 (by rw [List.length_map]; omega), rfl, fun b u e => ?_, ps ++ [q], ?_, ?_, fun j q' v hj hv => ?_⟩
    · rw [upd_ne (ne_of_none e hl)]; exact s2 _ _ (s1 _ _ (hs _ _ e))
    · rw [upd_same, List.map_append]; rfl
    · rw [List.length_append, hn]; rfl
    · have key : ∀ b u, (upd (upd H' p (.tup [.int i, x])) q (.tup [.int i, x])) b = some (.tup u) → (upd (upd (upd H' p (.tup [.int i, x])) q (.tup [.int i, x])) l (.lst (ps.map V.ref ++ [.ref q]))) b = some (.tup u) := fun b u e => by
        rw [upd_ne (fun z => ?_)]; exact e
        rw [z, upd_ne hlq, s1 _ _ hl'] at e; cases e
      by_cases hji : j < ps.length
      · rw [List.getElem?_append_left hji] at hj
        exact key _ _ (s2 _ _ (s1 _ _ (hP j q' v hj hv)))
      · rw [List.getElem?_append_right (by omega)] at hj
        have : j - ps.length = 0 := by
          by_cases h0 : j - ps.length = 0
          · exact h0
          · rw [List.getElem?_eq_none (by simp; omega)] at hj; cases hj
        have hji2 : j = i := by omega
        subst hji2
        rw [this] at hj
        cases hj
        rw [hx] at hv; cases hv
        exact key _ _ upd_same
  · rintro σ H' ⟨_, hs, ps, hl', hn, hP⟩
    exact hQ σ H' ps hs hl' hn hP
end L2

set_option Elab.async false
set_option linter.all false
set_option maxRecDepth 100000
set_option maxHeartbeats 4000000
/-! EXCEPTIONS OF OWN CLASSES over the hand layer: raised, passed on, caught as a name, looked at -/
namespace L2
open PySem PySem.Spec PyProof.Rows

theorem ObjOk.isThere {P : Program} {w : World} {H : Hp} {h : Heap} {a : Addr} {o : HO} (x : ObjOk P w H h a o) : ∃ u, h.get? a = some u := by
  cases o with
  | lst xs => obtain ⟨_, _, _, _, e⟩ := x; exact ⟨_, e⟩
  | tup xs => obtain ⟨_, _, _, u, e, _⟩ := x; exact ⟨u, e⟩
  | dK kvs => obtain ⟨_, _, _, _, o, _, _, e, _⟩ := x; exact ⟨_, e⟩
  | dT kvs => obtain ⟨_, _, _, _, o, _, _, e, _⟩ := x; exact ⟨_, e⟩
  | set S n => obtain ⟨o, _, _, _, e, _⟩ := x; exact ⟨_, e⟩
  | ins C dx fs => obtain ⟨_, _, _, e, _⟩ := x; exact ⟨_, e⟩
  | own y => exact x
  | xd fs => obtain ⟨_, ⟨_, _, _, e, _⟩, _⟩ := x; exact ⟨_, e⟩
  | rng lo hi => obtain ⟨_, _, _, e⟩ := x; exact ⟨_, e⟩
  | frz ob u => obtain ⟨e, _⟩ := x; exact ⟨_, e⟩
  | tbl ps => exact ⟨_, (show h.get? a = some _ from x)⟩
  | met f y => exact ⟨_, (show h.get? a = some _ from x)⟩
  | ext φ => obtain ⟨_, e, _⟩ := x; exact e
/-- the tracked objects are kept -/
theorem HOk.tracked {P : Program} {w : World} {H : Hp} {h h' : Heap} (ok : HOk P w H h) (k : ∀ b u o, H b = some u → h.get? b = some o → h'.get? b = some o) : HOk P w H h' := fun a o e =>
  (ok a o e).stay (fun b u hb q => by
    rcases hb with z | z
    · subst z; exact k _ _ _ e q
    · exact k _ _ _ z q) (fun _ q => q) fun _ _ q => q

/-- an exception flies at e, of class cls, out of a call that began at (H, s); behind it H' -/
structure Fly (P : Program) (w : World) (outer : List Env) (H : Hp) (s : Shared) (e : Addr) (cls : Value) (H' : Hp) (s' : Shared) : Prop where
  os : s'.os = s.os
  bare : AllBare s'.gens
  un : Un (frs outer) [] H H' s.heap s'.heap
  hok : HOk P w H' s'.heap
  fly : ∃ B a0, Heap.FlyingW B outer e cls a0 s'.heap ∧ (∀ b o, s.heap.get? b = some o → H b = none → b ∉ frs outer → B.get? b = some o) ∧ (∀ b o, s.heap.get? b = some o → b ∉ frs outer → ∃ o', B.get? b = some o') ∧ ∀ b u, H' b = some u → ∃ o, B.get? b = some o
/-- how an own exception lies behind a call -/
def CX1 (P : Program) (w : World) : CXT := fun outer H s E e s' => ∃ a cls H', e = .ref a ∧ Fly P w outer H s a cls H' s' ∧ E cls none H'

theorem frs_cons {env : Env} {l : List Env} {b : Addr} (h : b ∈ frs l) : b ∈ frs (env :: l) := by
  obtain ⟨e, he, hb⟩ := List.mem_filterMap.mp h
  exact List.mem_filterMap.mpr ⟨e, List.mem_cons_of_mem _ he, hb⟩

section
variable {X : Cx} {pins : List (Addr × Obj)} {σ : St} {H H' : Hp} {s s' : Shared} {cls : Value} {e : Addr} {Q : Unit → Shared → Prop} {E' : Value → Shared → Prop}
/-- what began ahead of the body is no frame of it -/
theorem Inv.notOwn (I : Inv X pins σ H s) {b : Addr} {o : Obj} (q : X.s₀.heap.get? b = some o) (hb : b ∉ X.fs) : b ∉ frs X.stack := fun hm => by
  rcases List.mem_cons.mp (I.stkSub b hm) with z | z
  · exact absurd (Nat.lt_of_lt_of_le (Heap.lt_size q) I.ok.above) (by rw [z]; exact Nat.lt_irrefl _)
  · exact hb z
/-- an exception, new in this body, leaves it -/
theorem raise_out (I : Inv X pins σ H s) (hs : X.stack = X.env :: X.outer) (hf : X.env.frame = some X.env.locals) (hex : X.ex = []) {h1 : Heap} {args : List Value} (hx : Heap.MadeExcOf s.heap h1 e cls args)
    (k : ∀ h', Fly X.prog X.w X.outer X.H₀ X.s₀ e cls H { s with heap := h' } → Q () { s with heap := h' }) : wpAny (model X.prog X.w) X.A (leaving X.env (.ref e)) Q E' { s with heap := h1 } := by
  have st : s.heap.FunFrames X.base X.stack := I.stack
  have hin : ∀ env ∈ X.stack, ∀ b, env.frame = some b → b ∈ frs X.stack := fun env he b hb => List.mem_filterMap.mpr ⟨env, he, hb⟩
  have fB := PySem.W.funFrames_hide (as := frs X.stack) st hin
  have hfr := I.ok.frames
  rw [hs] at hfr fB
  refine wpAny_leaves_madeW (base := PySem.W.hideAll s.heap (frs X.stack)) (h := s.heap) hfr hf (fun b o q => PySem.W.of_hideAll _ q) (by rw [hs]; exact fB) hx fun h' t x1 x2 x3 x4 => k h' ?_
  have nex : ∀ b, b ∉ X.ex := fun b hb => by rw [hex] at hb; cases hb
  have kB : ∀ b o, s.heap.get? b = some o → b ∉ frs X.stack → (PySem.W.hideAll s.heap (frs X.stack)).get? b = some o := fun b o q n => PySem.W.hideAll_get _ q n
  have kS : ∀ b o, s.heap.get? b = some o → b ∈ frs X.stack → ∃ sl, h'.get? b = some { o with slots := sl } := fun b o q hb => x4 b o (hx.keeps b o q) (by
    obtain ⟨_, o', ho', hd⟩ := st.mem hb
    rw [q] at ho'; cases ho'; exact hd)
  have kT : ∀ b u, H b = some u → b ∉ frs X.stack := fun b u q hb => by
    have := I.stkFree b hb
    rw [q] at this; cases this
  have up : ∀ {b : Addr}, b ∈ X.fs → b ∈ frs X.stack := fun hb => by rw [hs]; exact frs_cons hb
  refine ⟨I.os, I.bare, ⟨fun b o q n hb _ => ?_, fun b o q n hb _ => ?_, fun b o q n _ => I.base.free b o q n (nex b), fun b o q _ => ?_, I.base.tups, I.base.frzs, I.base.tbls⟩, I.hok.tracked fun b u o q z => x1.1 b o (kB b o z (kT b u q)), _, _, x1, fun b o q n hb => ?_, fun b o q hb => ?_, fun b u q => ?_⟩
  · exact x1.1 b o (kB b o (I.base.keep b o q n hb (nex b)) (I.notOwn q hb))
  · obtain ⟨sl, e1⟩ := I.base.slot b o q n hb (nex b)
    obtain ⟨sl', e2⟩ := kS b _ e1 (up hb)
    exact ⟨sl', e2⟩
  · obtain ⟨o', e1⟩ := I.base.there b o q (nex b)
    by_cases hm : b ∈ frs X.stack
    · obtain ⟨sl, e2⟩ := kS b o' e1 hm; exact ⟨_, e2⟩
    · exact ⟨o', x1.1 b o' (kB b o' e1 hm)⟩
  · exact kB b o (I.base.keep b o q n hb (nex b)) (I.notOwn q hb)
  · obtain ⟨o', e1⟩ := I.base.there b o q (nex b)
    exact ⟨o', kB b o' e1 (I.notOwn q hb)⟩
  · obtain ⟨o, e1⟩ := (I.hok b u q).isThere
    exact ⟨o, kB b o e1 (kT b u q)⟩
/-- a callee's exception: all that was there ahead, over this body's entry -/
theorem Fly.over (I : Inv X pins σ H s) (hs : X.stack = X.env :: X.outer) (hex : X.ex = []) (F : Fly X.prog X.w X.stack H s e cls H' s') {B : Heap} {a0 : Value} (hfl : Heap.FlyingW B X.stack e cls a0 s'.heap)
    (g1 : ∀ b o, s.heap.get? b = some o → H b = none → b ∉ frs X.stack → B.get? b = some o) (g2 : ∀ b o, s.heap.get? b = some o → b ∉ frs X.stack → ∃ o', B.get? b = some o') (g3 : ∀ b u, H' b = some u → ∃ o, B.get? b = some o)
    {h' : Heap} (hfl' : Heap.FlyingW B X.outer e cls a0 h') (hu : s'.heap.UpToSlots h') : Fly X.prog X.w X.outer X.H₀ X.s₀ e cls H' { s' with heap := h' } := by
  have nex : ∀ b, b ∉ X.ex := fun b hb => by rw [hex] at hb; cases hb
  have up : ∀ {b : Addr}, b ∈ X.fs → b ∈ frs X.stack := fun hb => by rw [hs]; exact frs_cons hb
  have kS : ∀ b o, s'.heap.get? b = some o → b ∈ frs X.stack → ∃ sl, h'.get? b = some { o with slots := sl } := fun b o q hb => hu b o q (by
    obtain ⟨_, o', ho', hd⟩ := hfl.2.2.1.mem hb
    rw [q] at ho'; cases ho'; exact hd)
  refine ⟨F.os.trans I.os, F.bare, ⟨fun b o q n hb _ => ?_, fun b o q n hb _ => ?_, fun b o q n _ => ?_, fun b o q _ => ?_, fun b xs q => F.un.tups b xs (I.base.tups b xs q), fun b o u q => F.un.frzs b o u (I.base.frzs b o u q), fun b ps q => ?_⟩, ?_, B, a0, hfl', fun b o q n hb => ?_, fun b o q hb => ?_, g3⟩
  · exact hfl'.1 b o (g1 b o (I.base.keep b o q n hb (nex b)) (I.base.free b o q n (nex b)) (I.notOwn q hb))
  · obtain ⟨sl, e1⟩ := I.base.slot b o q n hb (nex b)
    obtain ⟨sl', e2⟩ := F.un.slot b _ e1 (I.base.free b o q n (nex b)) (up hb) (by simp)
    obtain ⟨sl'', e3⟩ := kS b _ e2 (up hb)
    exact ⟨sl'', e3⟩
  · obtain ⟨o', e1⟩ := I.base.there b o q (nex b)
    exact F.un.free b o' e1 (I.base.free b o q n (nex b)) (by simp)
  · obtain ⟨o', e1⟩ := I.base.there b o q (nex b)
    by_cases hm : b ∈ frs X.stack
    · obtain ⟨o2, e2⟩ := F.un.there b o' e1 (by simp)
      obtain ⟨sl, e3⟩ := kS b o2 e2 hm; exact ⟨_, e3⟩
    · obtain ⟨o2, e2⟩ := g2 b o' e1 hm
      exact ⟨o2, hfl'.1 b o2 e2⟩
  · obtain ⟨m1, e1⟩ := I.base.tbls b ps q
    obtain ⟨m2, e2⟩ := F.un.tbls b _ e1
    exact ⟨m1 ++ m2, by rw [e2, Array.append_assoc]⟩
  · refine F.hok.tracked fun b u o q z => ?_
    obtain ⟨o', e1⟩ := g3 b u q
    have := hfl.1 b o' e1
    rw [z] at this; cases this
    exact hfl'.1 b _ e1
  · exact g1 b o (I.base.keep b o q n hb (nex b)) (I.base.free b o q n (nex b)) (I.notOwn q hb)
  · obtain ⟨o', e1⟩ := I.base.there b o q (nex b)
    exact g2 b o' e1 (I.notOwn q hb)
/-- a callee's exception leaves this body too -/
theorem pass_out (I : Inv X pins σ H s) (hs : X.stack = X.env :: X.outer) (hf : X.env.frame = some X.env.locals) (hex : X.ex = []) (F : Fly X.prog X.w X.stack H s e cls H' s')
    (k : ∀ h', Fly X.prog X.w X.outer X.H₀ X.s₀ e cls H' { s' with heap := h' } → Q () { s' with heap := h' }) : wpAny (model X.prog X.w) X.A (leaving X.env (.ref e)) Q E' s' := by
  obtain ⟨B, a0, hfl, g1, g2, g3⟩ := F.fly
  have hfr := I.ok.frames
  have hfl1 := hfl
  rw [hs] at hfr hfl1
  exact wpAny_leaves_onW hfr hf hfl1 fun h' x1 x2 => k h' (Fly.over I hs hex F hfl g1 g2 g3 x1 x2)
end
/-- of a body whose exceptions are wanted as CX1 says: a callee's exception passes -/
theorem pass1 {P : Program} {w : World} {K : PySem.W.Frag} {mg : Str → Option Value} {base : Heap} {N : List Str} {qual : Str} {scope : Scope} {f : Addr} {cd : Value} {A : Around} {outer : List Env} {s : Shared} {H : Hp} {E : XK} :
    Passes (CX1 P w) (cxOf (CX1 P w) P w K mg base N qual scope f cd A outer s H E) E := by
  intro pins σ H1 s1 e s2 I h
  obtain ⟨a, cls, H', rfl, F, q⟩ := h
  exact pass_out (X := cxOf (CX1 P w) P w K mg base N qual scope f cd A outer s H E) I rfl rfl rfl F fun h' F' => ⟨a, cls, H', rfl, F', q⟩

/-! ### raise C('..'), C an own class under ValueError -/
abbrev bmV : List Value := [.type "ValueError", .type "Exception", .type "BaseException", .type "object"]
/-- what is known of the class at C -/
structure ExcC (K : PySem.W.Frag) (C : Addr) : Prop where
  ex : PySem.W.excIn K C bmV "ValueError.__new__" = true
theorem ExcC.obj {K : PySem.W.Frag} {C : Addr} {h : Heap} (c : ExcC K C) (X : K.In h) : ∃ bm N nm q bs hdct sn sub ab col dd k0 k1 k2 k3 k5 mN,
    h.get? C = some (excClassObj nm q C N bs bm hdct sn sub ab col dd k0 k1 k2 k3 k5 "ValueError.__new__") ∧ h.Ns N mN ∧ mN "__init__" = none ∧ OwnTail h bmV bm := by
  have z := c.ex
  unfold PySem.W.excIn at z
  split at z
  · rename_i dct cdat slt look
    split at z
    · rename_i C2 tl a0 a1 a2 a3 nid a5 m1 m2
      simp only [Bool.and_eq_true, beq_iff_eq, Bool.not_eq_true'] at z
      obtain ⟨⟨⟨⟨⟨rfl, rfl⟩, noDel⟩, tail⟩, isN⟩, noInit⟩ := z
      obtain ⟨y1, y2, y3, y4, y5, y6, y7, y8, y9, y10, y11⟩ := cdat
      dsimp only at m1 noDel isN noInit
      subst m1 noDel
      obtain ⟨ls⟩ := slt
      replace m2 : ls = _ := m2
      subst m2
      refine ⟨tl, y4, y1, y5, y2, y6, y7, y8, y9, y10, dct, a0, a1, a2, a3, a5, _, X _ _ look, ?_, PySem.W.nsMap_none_of_in X isN noInit, PySem.W.tail_of_in X tail⟩
      exact .of_isNs (PySem.W.isNs_of_in X isN)
    · cases z
  · cases z
section
variable {X : Cx} {x : Str} {z : Str} {j : Nat} {np p1 cpos pos : Pos} {C : Addr} {E : XK}
theorem ps_raise (hxe : X.xe = fun e s' => wpAny (model X.prog X.w) X.A (leaving X.env e) (fun _ s'' => CX1 X.prog X.w X.outer X.H₀ X.s₀ E e s'') (fun e' s'' => CX1 X.prog X.w X.outer X.H₀ X.s₀ E e' s'') s')
    (hs : X.stack = X.env :: X.outer) (hf : X.env.frame = some X.env.locals) (hex : X.ex = []) (hc : X.calm = true) (hg : Gl X x) (hm : X.mg x = some (.ref C)) (c : ExcC X.K C) (hd : (x == ("__debug__" : Str)) = false := by decide) :
    PS X (.Raise (some (.Call (.Name x np) [.Constant (.str z) j p1] [] cpos)) none pos) (fun _ _ H => E (.ref C) none H) := by
  intro pins s σ H D I h
  obtain ⟨bm, N, nm, q, bs, hdct, sn, sub, ab, col, dd, k0, k1, k2, k3, k5, mN, hC, hN, hni, T⟩ := c.obj I.ok.mod.kin
  refine wpAny_Raise_call_subT (C := C) (nm := nm) (q := q) (N := N) (bs := bs) (bm := bm) (hdct := hdct) (sn := sn) (sub := sub) (ab := ab) (col := col) (dd := dd) (k0 := k0) (k1 := k1) (k2 := k2) (k3 := k3) (k5 := k5) PySem.F.excBase_ValueError (mN := mN)
    (T.hasType PySem.F.excBase_ValueError.hasBase) (I.ok.hd hc) rfl hni (ld_glob I hg hm ⟨rfl, ?_⟩ hd)
  have ha : PA X [.Constant (.str z) j p1] (tCons (tC (.str z)) tNil) := pa_c pe_str pa_nil
  refine Calls.evalArgs_plain (thn (ha cpos pins s σ H (fun vs H' => H' = H ∧ vs = [.str z]) I ⟨rfl, rfl⟩) fun us s2 hA => ?_)
  obtain ⟨vs, H2, I2, rv, e1, e2⟩ := hA
  subst e1 e2
  have hl := rv.length
  refine ⟨rfl, ?_, I2.bk _ _ hC, hN.keeps I2.bk, T.keeps I2.bk, fun h' e hx => ?_⟩
  · show us.length ≤ sizeLine
    rw [← hl]; show 1 ≤ sizeLine; decide
  · rw [hxe]
    exact raise_out I2 hs hf hex hx fun h2 F => ⟨e, .ref C, _, rfl, F, h⟩
end

/-! ### try: .. except C as n: .. -/
/-- the suite's context: the exception at e is handled, its object known -/
def Cx.within (X : Cx) (e : Addr) (oe : Obj) : Cx := { X with A := X.A.mark (some (.ref e)), calm := false, pn := (e, oe) :: X.pn, xe := fun _ _ => False }
/-- an exception that flies into this body -/
def Lands (X : Cx) (E : XK) : Value → Shared → Prop := fun v s' => ∃ pins σ H s e cls H', v = .ref e ∧ Inv X pins σ H s ∧ Fly X.prog X.w X.stack H s e cls H' s' ∧ E cls none H'
theorem pass_lands {X : Cx} {E : XK} : Passes (CX1 X.prog X.w) (X.wish (Lands X E)) E := by
  intro pins σ H s e s' I h
  obtain ⟨a, cls, H', rfl, F, q⟩ := h
  exact ⟨pins, σ, H, s, a, cls, H', rfl, I.unwish, F, q⟩
end L2

set_option Elab.async false
set_option linter.all false
set_option maxRecDepth 100000
set_option maxHeartbeats 4000000
/-! AN EXCEPTION CAUGHT AS A NAME; its class looked at -/
namespace L2
open PySem PySem.Spec PyProof.Rows
section
variable {X : Cx} {pins : List (Addr × Obj)} {σ : St} {H H' : Hp} {s s' : Shared} {cls a0 : Value} {e : Addr} {oe : Obj} {B h5 : Heap}
/-- the exception has come to this body: all as it was, but for what the callee did -/
theorem Inv.landed (I : Inv X pins σ H s) (F : Fly X.prog X.w X.stack H s e cls H' s') (hfl : Heap.FlyingW B X.stack e cls a0 s'.heap)
    (g1 : ∀ b o, s.heap.get? b = some o → H b = none → b ∉ frs X.stack → B.get? b = some o) (g2 : ∀ b o, s.heap.get? b = some o → b ∉ frs X.stack → ∃ o', B.get? b = some o') (g3 : ∀ b u, H' b = some u → ∃ o, B.get? b = some o)
    (hB : B.StaysIn h5) (hu : s'.heap.UpToSlots h5) : Inv X pins σ H' { s' with heap := h5 } := by
  have kS : ∀ b o, s'.heap.get? b = some o → b ∈ frs X.stack → ∃ sl, h5.get? b = some { o with slots := sl } := fun b o q hb => hu b o q (by
    obtain ⟨_, o', ho', hd⟩ := hfl.2.2.1.mem hb
    rw [q] at ho'; cases ho'; exact hd)
  refine I.call' (s' := { s' with heap := h5 }) (ch := []) F.os ⟨fun b o q n hb _ => hB b o (g1 b o q n hb), fun b o q n hb _ => ?_, fun b o q n _ => F.un.free b o q n (by simp), fun b o q _ => ?_, F.un.tups, F.un.frzs, F.un.tbls⟩ (F.hok.tracked fun b u o q z => ?_) F.bare fun b z => nomatch z
  · obtain ⟨sl, e2⟩ := F.un.slot b o q n hb (by simp)
    obtain ⟨sl', e3⟩ := kS b _ e2 hb
    exact ⟨sl', e3⟩
  · by_cases hm : b ∈ frs X.stack
    · obtain ⟨o2, e2⟩ := F.un.there b o q (by simp)
      obtain ⟨sl, e3⟩ := kS b o2 e2 hm; exact ⟨_, e3⟩
    · obtain ⟨o2, e2⟩ := g2 b o q hm
      exact ⟨o2, hB b o2 e2⟩
  · obtain ⟨o', e1⟩ := g3 b u q
    have := hfl.1 b o' e1
    rw [z] at this; cases this
    exact hB b _ e1
theorem Inv.within (I : Inv X pins σ H s) (he : s.heap.get? e = some oe) (hn : H e = none) (hL : e ≠ X.env.locals) (hf : e ∉ X.fs) (hd : ∀ v, oe.data ≠ .cell v) : Inv (X.within e oe) pins σ H s :=
  ⟨⟨I.ok.mod, I.ok.kind, I.ok.glob, I.ok.blt, I.ok.above, I.ok.inj, I.ok.has, I.ok.cab, fun z => (Bool.false_ne_true z).elim, I.ok.frames, I.ok.stk, I.ok.exf, I.ok.bs, I.ok.bsz, I.ok.noex, I.ok.exfs, I.ok.funs, I.ok.frf⟩, I.os, I.bare, I.base, I.loc, I.cell, I.free, I.freeC,
    fun p hp => by
      rcases List.mem_append.mp hp with z | z
      · rcases List.mem_cons.mp z with y | y
        · subst y; exact ⟨he, hn, hL, hf, hd⟩
        · exact I.pin p (List.mem_append_left _ y)
      · exact I.pin p (List.mem_append_right _ z), I.hok, I.len⟩
/-- the name is gone, the suite is over: back in the body, its slots forgotten -/
theorem Inv.suiteOver (hc : X.A.handled = none) (I : Inv (X.within e oe) [] σ H s) (hpn : X.pn = []) {h' : Heap} {m : Str → Option Value} {t : Nat} (hN : h'.Ns X.env.locals m) (hs : Heap.SameBut X.env.locals s.heap h') : Inv X [] (List.replicate X.N.length none) H { s with heap := h', toks := t } := by
  have below : ∀ b o, X.s₀.heap.get? b = some o → b ≠ X.env.locals := fun b o q => Nat.ne_of_lt (Nat.lt_of_lt_of_le (Heap.lt_size q) I.ok.above)
  refine ⟨⟨I.ok.mod, I.ok.kind, I.ok.glob, I.ok.blt, I.ok.above, I.ok.inj, I.ok.has, I.ok.cab, fun _ => hc, I.ok.frames, I.ok.stk, I.ok.exf, I.ok.bs, I.ok.bsz, I.ok.noex, I.ok.exfs, I.ok.funs, I.ok.frf⟩, I.os, I.bare,
    ⟨fun b o q n hb hx => (hs.2 b (below b o q)).trans (I.base.keep b o q n hb hx), fun b o q n hb hx => let ⟨sl, e1⟩ := I.base.slot b o q n hb hx; ⟨sl, (hs.2 b (below b o q)).trans e1⟩, I.base.free, fun b o q hx => let ⟨o', e1⟩ := I.base.there b o q hx; ⟨o', (hs.2 b (below b o q)).trans e1⟩, I.base.tups, I.base.frzs, I.base.tbls⟩,
    ⟨m, hN, fun i x v _ e2 _ => ?_⟩, fun y c q => ?_, I.free, I.freeC, fun p hp => ?_, I.hok.tracked fun b u o q z => ?_, by simp⟩
  · rw [List.getElem?_replicate] at e2
    split at e2 <;> cases e2
  · obtain ⟨w', z⟩ := I.cell y c q
    exact ⟨w', z.sameBut hs (I.cne y c q)⟩
  · rw [hpn] at hp; cases hp
  · refine (hs.2 b fun y => ?_).trans z
    have := I.free
    rw [show (X.within e oe).env.locals = X.env.locals from rfl, ← y, q] at this; cases this
end
section
variable {X : Cx} {E : XK} {R : VK} {y n : Str} {i : Nat} {Cy : Addr} {b₀ : Stmt} {suite : List Stmt} {np hp : Pos} {tS : Addr → Obj → TS}
theorem catch_as (hs : X.stack = X.env :: X.outer) (hf : X.env.frame = some X.env.locals) (hpn : X.pn = []) (hcalm : X.calm = true) (hy : Gl X y) (hm : X.mg y = some (.ref Cy)) (hN : X.N.Nodup) (hi : X.N[i]? = some n) (hn : X.env.scope.names.lookup n = some .local)
    (hk : ∀ cls H', E cls none H' → PySem.W.exmOne X.K cls (.ref Cy) = some true) (hS : ∀ e oe, PSs (X.within e oe) (b₀ :: suite) (tS e oe))
    (q : ∀ e oe cls H', oe.cls = cls → E cls none H' → tS e oe { nx := fun _ _ => False, rt := R } ((List.replicate X.N.length none).set i (some (.ref e))) H') (hdb : (y == ("__debug__" : Str)) = false) {D : Ends} (hD : D.rt = R) {v : Value} {s' : Shared} (h : Lands X E v s') :
    wpAny (model X.prog X.w) X.A (noteFrame v X.env) (fun _ s₂ => wpAny (model X.prog X.w) X.A (setFlight v none) (fun _ s₃ => wpAny (model X.prog X.w) X.A (handleBy v X.env [.ExceptHandler (some (.Name y np)) (some n) (b₀ :: suite) hp]) (SP X [] D) X.xe s₃) X.xe s₂) X.xe s' := by
  obtain ⟨pins, σ, H, s, e, cls, H', rfl, I, F, qE⟩ := h
  obtain ⟨B, a0, hfl, g1, g2, g3⟩ := F.fly
  have hfr := I.ok.frames
  have hfl1 := hfl
  rw [hs] at hfr hfl1
  have heH : H' e = none := by
    cases z : H' e with
    | none => rfl
    | some u =>
      obtain ⟨o, e1⟩ := g3 e u z
      rw [hfl.2.1] at e1; cases e1
  -- the exception's object, in any heap in which it has landed
  have obj : ∀ {h : Heap}, Heap.FlyingW B (X.env :: X.outer) e cls a0 h → Inv X pins σ H' { s' with heap := h } → ∃ oe, oe.cls = cls ∧ h.get? e = some oe ∧ ∀ {pins' σ'}, Inv X pins' σ' H' { s' with heap := h } → Inv (X.within e oe) pins' σ' H' { s' with heap := h } := fun {h} fl J => by
    obtain ⟨oe, vs, ho, hc, hd, _⟩ := fl.first
    refine ⟨oe, hc, ho, fun J' => J'.within ho heH ?_ ?_ ?_⟩
    · intro z
      obtain ⟨m, ⟨o2, es, ep, ho2, hd2, _⟩, _⟩ := J'.loc
      rw [← z, ho] at ho2; cases ho2
      rw [hd] at hd2; cases hd2
    · intro z
      obtain ⟨_, o2, ho2, hd2⟩ := J'.funs.mem z
      rw [ho] at ho2; cases ho2
      exact hd2 _ hd
    · intro v z
      rw [hd] at z; cases z
  refine wpAny_looks_onW hfr hf hfl1 fun h₄ held₄ sm₄ => wpAny_landsW held₄ fun h₅ fl₅ sm₅ => ?_
  have I5 : Inv X pins σ H' { s' with heap := h₅ } := I.landed F hfl g1 g2 g3 fl₅.1 (sm₄.trans sm₅)
  obtain ⟨o5, c5, he5, w5⟩ := obj fl₅ I5
  have LT : PySem.W.Looks (model X.prog X.w) h₅ (typeOf (.ref e)) cls := c5 ▸ (PySem.W.Looks.ld he5).andThen .now
  refine wpAny_handleBy_cons (codeAny_handlers_test (ld_glob (X := X.within e o5) (w5 I5) hy hm ?_ hdb)) (by intro z; cases z)
  refine (PySem.W.exm_one (M := model X.prog X.w) I5.kIn LT (hk cls H' qE)).here ?_
  refine codeAny_handlers_suite_as (lands_againW fl₅ fun h₆ fl₆ sm₆ => ?_)
  have I6 : Inv X pins σ H' { s' with heap := h₆ } := I.landed F hfl g1 g2 g3 fl₆.1 ((sm₄.trans sm₅).trans sm₆)
  obtain ⟨o6, c6, he6, w6⟩ := obj fl₆ I6
  have I6' : Inv X [] (List.replicate X.N.length none) H' { s' with heap := h₆ } := (I6.pins_of (pins' := []) fun p z => nomatch z).weak (by rw [List.length_replicate]; exact I6.len.symm) fun j v z => by
    rw [List.getElem?_replicate] at z
    split at z <;> cases z
  refine store_ok (X := X.within e o6) (w6 I6') hN hi (.inl hn) (v := .ref e) rfl (fun s₇ I7 => ?_) (.inr hn)
  refine wpAny_mono (hS e o6 [] s₇ _ H' _ I7 (q e o6 cls H' c6 qE)) (fun f s₈ h8 => ?_) fun _ _ z => False.elim z
  have fin : ∀ {σ8 : St} {H8 : Hp}, Inv (X.within e o6) [] σ8 H8 s₈ → (∀ s9, Inv X [] (List.replicate X.N.length none) H8 s9 → SP X [] D f s9) → wpAny (model X.prog X.w) X.A (do bindName X.env n .none; unbindBehindTheSuite X.env n hp) (fun _ s₃ => SP X [] D f s₃) X.xe s₈ := fun {σ8 H8} I8 k => by
    obtain ⟨m, hm8, _⟩ := I8.loc
    exact wpAny_nameGoes hn hm8 (by rw [I.ok.kind]; rfl) fun h' m' hN' hs' => k _ (Inv.suiteOver (I.ok.hd hcalm) I8 hpn hN' hs')
  cases f with
  | next => obtain ⟨σ8, H8, I8, z⟩ := h8; exact False.elim z
  | brk => obtain ⟨σ8, H8, I8, z⟩ := h8; exact False.elim z
  | cont => obtain ⟨σ8, H8, I8, z⟩ := h8; exact False.elim z
  | ret u =>
    obtain ⟨v8, σ8, H8, I8, r8, z⟩ := h8
    exact fin I8 fun s9 I9 => ⟨v8, _, H8, I9, r8, by rw [hD]; exact z⟩
end
section
variable {P : Program} {w : World} {K : PySem.W.Frag} {mg : Str → Option Value} {base : Heap}
/-- a def out of which own exceptions may fly -/
theorem Fun.okX {x qual : Str} {st : Stmt} {f : Addr} {fd : FuncData} {N ps : List Str} {k : Nat} {sp : Sp} (F : Fun K x qual st f fd) (S : FnScope N ps (defScope st)) (len : ∀ vs H Q E, sp vs H Q E → vs.length = ps.length)
    (hbody : ∀ (cdv : Value) (A : Around) (outer : List Env) (s : Shared) (H : Hp) (vs : List V) (Q : VK) (E : XK), Room k (A.deeper (envOfC qual (defScope st) s.heap.objs.size f cdv)) → sp vs H Q E →
      ∃ t, PSs (cxOf (CX1 P w) P w K mg base N qual (defScope st) f cdv A outer s H E) (defBody st) t ∧ t { nx := fun _ H' => Q .non H', rt := Q } (start N vs) H) : FnOk P w K mg base (CX1 P w) (k + 1) f fd ps sp := by
  obtain ⟨oc, od, kV, doc, pm, an, cdv, ct, osl, rfl, lk, hcd⟩ := F.ex
  exact fn_of lk hcd S len fun A outer s H vs Q E hr hsp => hbody cdv A outer s H vs Q E hr hsp
/-- a def that is: try: body, except Cy as n: suite; all that flies out of the body is caught, the suite returns -/
theorem Fun.okTry {x qual : Str} {st : Stmt} {f : Addr} {fd : FuncData} {N ps : List Str} {k : Nat} {sp : Sp} {body : List Stmt} {y n : Str} {i : Nat} {Cy : Addr} {b₀ : Stmt} {suite : List Stmt} {np hp pos : Pos} (F : Fun K x qual st f fd) (S : FnScope N ps (defScope st)) (len : ∀ vs H Q E, sp vs H Q E → vs.length = ps.length)
    (hst : defBody st = [.Try body [.ExceptHandler (some (.Name y np)) (some n) (b₀ :: suite) hp] [] [] pos]) (hy : (defScope st).names.lookup y = some .globalImplicit) (hm : mg y = some (.ref Cy)) (hi : N[i]? = some n) (hn : (defScope st).names.lookup n = some .local) (hdb : (y == ("__debug__" : Str)) = false)
    (hbody : ∀ (cdv : Value) (A : Around) (outer : List Env) (s : Shared) (H : Hp) (vs : List V) (Q : VK) (E : XK), Room k (A.deeper (envOfC qual (defScope st) s.heap.objs.size f cdv)) → sp vs H Q E →
      ∃ (EX : XK) (t : TS) (tS : Addr → Obj → TS), PSs ((cxOf CX0 P w K mg base N qual (defScope st) f cdv A outer s H E).nox.wish (Lands (cxOf CX0 P w K mg base N qual (defScope st) f cdv A outer s H E).nox EX)) body t ∧
        (∀ e oe, PSs ((cxOf CX0 P w K mg base N qual (defScope st) f cdv A outer s H E).nox.within e oe) (b₀ :: suite) (tS e oe)) ∧ t { nx := fun _ H' => Q .non H', rt := Q } (start N vs) H ∧
        (∀ cls H', EX cls none H' → PySem.W.exmOne K cls (.ref Cy) = some true) ∧ ∀ e oe cls H', oe.cls = cls → EX cls none H' → tS e oe { nx := fun _ _ => False, rt := Q } ((List.replicate N.length none).set i (some (.ref e))) H') : FnOk P w K mg base CX0 (k + 1) f fd ps sp := by
  obtain ⟨oc, od, kV, doc, pm, an, cdv, ct, osl, rfl, lk, hcd⟩ := F.ex
  refine ⟨len, fun A outer s H args us vs Q E hr e0 hb r hsp => ?_⟩
  obtain ⟨EX, t, tS, h1, h2, h3, h4, h5⟩ := hbody cdv A outer s H vs Q E (hr.deeper _) hsp
  -- the body as one statement, run with no pins
  have key : ∀ (s1 : Shared), Inv (cxOf CX0 P w K mg base N qual (defScope st) f cdv A outer s H E).nox [] (start N vs) H s1 →
      wpAny (model P w) (A.deeper (envOfC qual (defScope st) s.heap.objs.size f cdv)) (execs (defBody st) (envOfC qual (defScope st) s.heap.objs.size f cdv)) (SP (cxOf CX0 P w K mg base N qual (defScope st) f cdv A outer s H E).nox [] { nx := fun _ H' => Q .non H', rt := Q }) (fun _ _ => False) s1 := fun s1 I => by
    rw [hst]
    refine wpAny_execs_cons (thn (Q := SP (cxOf CX0 P w K mg base N qual (defScope st) f cdv A outer s H E).nox [] { nx := fun _ H' => Q .non H', rt := Q }) (wpAny_Try_except (wpAny_mono (h1 [] s1 (start N vs) H { nx := fun _ H' => Q .non H', rt := Q } (I.wish _) h3) (fun fl s2 q2 => ?_) fun v s2 q2 => ?_)) fun fl s2 q2 => ?_)
    · have q3 := SP.unwish q2
      cases fl with
      | next => exact wpAny_execs_nil q3
      | ret u => exact q3
      | brk => exact q3
      | cont => exact q3
    · exact catch_as (X := (cxOf CX0 P w K mg base N qual (defScope st) f cdv A outer s H E).nox) (R := Q) rfl rfl rfl rfl hy hm S.nd hi hn h4 h2 h5 hdb rfl q2
    · cases fl with
      | next => exact wpAny_execs_nil q2
      | ret u => exact q2
      | brk => exact q2
      | cont => exact q2
  have hl := len _ _ _ _ hsp
  have KX : K.In s.heap := e0.mod.kin.keeps fun b o e => (e0.bs b o e).1
  have lim : s.heap.NoLimit := e0.mod.nolimit.keeps fun b o e => (e0.bs b o e).1
  have hkind : ∀ z ∈ ps.zip us, (defScope st).names.lookup z.1 = some .local ∨ ((defScope st).names.lookup z.1 = some .cell ∧ ((cellsFrom (s.heap.objs.size + 1) (defScope st).names []).lookup z.1).isSome = true) := fun ⟨n, v⟩ hy => by
    rcases S.par n (List.of_mem_zip hy).1 with q | q
    · exact .inl q
    · exact .inr ⟨q, PySem.W.cellsFrom_some _ _ _ (.inl q)⟩
  refine codeAny_call_function hr.depth (KX _ _ lk) rfl S.co S.gen rfl (PySem.W.codeRec_of KX hcd) (hb _ _ _ _ ?_)
  refine wpAny_newFunctionEnv_cells S.kind hkind fun env he s1 x => ?_
  subst he
  refine ⟨lim.keeps x.toInCall.keep, codeAny_func ?_⟩
  have I : Inv (cxOf CX0 P w K mg base N qual (defScope st) f cdv A outer s H E) [] (start N vs) H s1 := inv_start S hr.hd e0 hl r x
  refine wpAny_mono (key s1 (I.wish _)) (fun fl s' hs => ?_) fun e s' hs => hs.elim
  have fin : ∀ {σ' : St} {H' : Hp} {v : V} {u : Value}, Inv (cxOf CX0 P w K mg base N qual (defScope st) f cdv A outer s H E).nox [] σ' H' s' → RelV v u → Q v H' → CE outer P w H s Q u s' :=
    fun {σ' H' v u} J rv q => ⟨v, H', J.os, J.bare, J.base, J.hok, rv, q⟩
  cases fl with
  | ret u =>
    obtain ⟨v, σ', H', J, rv, q⟩ := hs
    exact fin J rv q
  | next =>
    obtain ⟨σ', H', J, q⟩ := hs
    exact fin (v := V.non) (u := Value.none) J rfl q
  | brk =>
    obtain ⟨_, _, _, q⟩ := hs
    exact False.elim q
  | cont =>
    obtain ⟨_, _, _, q⟩ := hs
    exact False.elim q
end
end L2

set_option Elab.async false
set_option linter.all false
set_option maxRecDepth 100000
set_option maxHeartbeats 4000000
/-! isinstance(e, C) of a caught exception of an own class -/
namespace L2
open PySem PySem.Spec PyProof.Rows
def excOk (K : PySem.W.Frag) (D : Addr) : Bool := PySem.W.excIn K D bmV "ValueError.__new__" && (PySem.W.findIn K (.ref D) "__class__" == some (some (.builtin "object.__class__")) && PySem.W.findIn K (.ref D) "__getattribute__" == some (some (.builtin "BaseException.__getattribute__")) &&
  PySem.W.findIn K (.ref D) "__getattr__" == some none && PySem.W.mroIn K D (.type "object") == some true && PySem.W.mroIn K D (.type "BaseException") == some true && PySem.W.specialIn K (.builtin "object.__class__") "__get__" == some (some (.builtin "getset_descriptor.__get__")) && PySem.W.takesIn K (.builtin "object.__class__") == some true)
structure ExcD (K : PySem.W.Frag) (D : Addr) : Prop where
  ex : PySem.W.excIn K D bmV "ValueError.__new__" = true
  cl : PySem.W.findIn K (.ref D) "__class__" = some (some (.builtin "object.__class__"))
  ga : PySem.W.findIn K (.ref D) "__getattribute__" = some (some (.builtin "BaseException.__getattribute__"))
  gt : PySem.W.findIn K (.ref D) "__getattr__" = some none
  mo : PySem.W.mroIn K D (.type "object") = some true
  mb : PySem.W.mroIn K D (.type "BaseException") = some true
  gg : PySem.W.specialIn K (.builtin "object.__class__") "__get__" = some (some (.builtin "getset_descriptor.__get__"))
  tk : PySem.W.takesIn K (.builtin "object.__class__") = some true
theorem excD_of {K : PySem.W.Frag} {D : Addr} (h : excOk K D = true) : ExcD K D := by
  unfold excOk at h
  simp only [Bool.and_eq_true, beq_iff_eq] at h
  obtain ⟨h0, ⟨⟨⟨⟨⟨⟨h1, h2⟩, h3⟩, h4⟩, h5⟩, h6⟩, h7⟩⟩ := h
  exact ⟨h0, h1, h2, h3, h4, h5, h6, h7⟩
end L2
namespace L2
open PySem PySem.W PySem.Calls PyProof.Rows Builtin Builtin.ObjectAttr Builtin.Getset_descriptor
section
variable {prog : Program} {w : World} {A : Around} {E : Value → Shared → Prop} {K : PySem.W.Frag} {x D : Addr}
theorem exc_find {M : Model} {h : Heap} (X : K.In h) (c : ExcD K D) : PySem.W.Looks M h (find (.ref x) (.ref D) "__class__") (.bind (.builtin "getset_descriptor.__get__") (.builtin "object.__class__")) := by
  refine (PySem.W.looks_findIn X c.cl).andThen ?_
  refine PySem.W.Looks.andThen (a := some (Value.builtin "getset_descriptor.__get__")) (PySem.W.looks_specialIn X c.gg) ?_
  refine PySem.W.Looks.andThen (a := some (Value.builtin "getset_descriptor.__get__", Value.builtin "object.__class__")) ?_ (PySem.W.Looks.tag .now)
  exact (PySem.W.looks_takesIn X c.tk).andThen .now
theorem exc_get {R : Result → Shared → Prop} {s : Shared} {tp : Value} (X : K.In s.heap) (L0 : PySem.W.Looks (model prog w) s.heap (typeOf (.ref x)) (.ref D)) (c : ExcD K D) (h : R (.ok (.ret (.ref D))) s) :
    codeAny (model prog w) A (.call (.builtin "getset_descriptor.__get__") ⟨[.builtin "object.__class__", .ref x, tp], []⟩) R s := by
  obtain ⟨hh, g, dr, t, os⟩ := s
  have LM := PySem.W.looks_mroIn (M := model prog w) X c.mo
  refine codeAny_call_builtin KF.slot_gs.plain KF.entry_gs (KF.slot_gs.check _ _ _ _ _ _ _ _ KF.type_class (KF.args_gs _ _ _) ?_); unfold Builtin.«getset_descriptor.__get__» descrGet; rw [dga_obj]
  refine wpAny_bind (wpAny_pure ?_); unfold descrGetter descrCheckInstance descrNameAndClass isInstance; simp only [KF.owner_class]; repeat lk
  refine ⟨Code.quiet_builtin _ (by decide +kernel), codeAny_builtin KF.entry_class ?_⟩; unfold Builtin.«object.__class__» shownTypeOf; repeat lk
  exact h
theorem exc_class {s : Shared} {Q : Option Value → Shared → Prop} (X : K.In s.heap) {o : Obj} (hx : s.heap.get? x = some o) (hc : o.cls = .ref D) (c : ExcD K D) (h : Q (some (.ref D)) { s with toks := s.toks + 1 }) :
    wpAny (model prog w) A (getAttr? (.ref x) "__class__") Q E s := by
  obtain ⟨hh, g, d, t, os⟩ := s
  have hx : hh.get? x = some o := hx
  have L0 : Looks (model prog w) hh (typeOf (.ref x)) (.ref D) := hc ▸ (Looks.ld hx).andThen .now
  have L1 := looks_findIn (M := model prog w) X c.ga
  have L2' := looks_findIn (M := model prog w) X c.gt
  have LB := looks_mroIn (M := model prog w) X c.mb
  have LF := exc_find (x := x) (M := model prog w) X c
  unfold getAttr? getAttrBy? getAttrBy
  refine wpAny_bind (wpAny_mkText (wpAny_bind (wpAny_attempt (wpAny_holding (wpAny_bind (L0.at (wpAny_bind (L1.at ?_))))))))
  have hne : (onTheHeap (Value.ref D) && Value.builtin "BaseException.__getattribute__" == Value.builtin "object.__getattribute__") = false := by
    rw [show (Value.builtin "BaseException.__getattribute__" == Value.builtin "object.__getattribute__") = false by decide +kernel]; rfl
  dsimp only
  rw [if_neg (by rw [hne]; decide)]
  unfold getAttrByItsOwn hookBefore
  rw [if_pos (show onTheHeap (Value.ref D) = true from rfl)]
  refine wpAny_bind (L2'.at (wpAny_bind (wpAny_attempt (wpAny_holding ?_))))
  unfold callGetattribute boundAndCalled
  rw [if_neg (by decide)]
  refine wpAny_bind (wpAny_of_eq (PySem.F.attr_ValueError.ga.bind (.ref x)) ?_)
  refine wpAny_call (codeAny_call_builtin PySem.F.attr_ValueError.ga.plain PySem.F.entry_bexc_ga ?_)
  have hk : builtinKind "BaseException.__getattribute__" = some .slot := by decide +kernel
  have hsp : splitId "BaseException.__getattribute__" = some ("BaseException", "__getattribute__") := by decide +kernel
  have ha := PySem.F.args_bexc_ga (.ref x) (.str "__class__" t)
  simp only [checkBuiltinCall, hk, hsp]
  have LI : Looks (model prog w) hh (isInstance (.ref x) (.type "BaseException")) true := L0.andThen LB
  refine wpAny_bind (LI.at ?_)
  repeat (first | assumption | wp_step)
  rw [hc]
  have LC := looks_findIn (M := model prog w) X c.cl
  have LG : Looks (model prog w) hh (getOf (some (Value.builtin "object.__class__"))) (some (Value.builtin "getset_descriptor.__get__")) := looks_specialIn X c.gg
  have LD : Looks (model prog w) hh (dataDescriptor? (some (Value.builtin "object.__class__")) (some (Value.builtin "getset_descriptor.__get__"))) (some (Value.builtin "getset_descriptor.__get__", Value.builtin "object.__class__")) := (looks_takesIn X c.tk).andThen .now
  refine LC.at (wpAny_bind (LG.at (wpAny_bind (LD.at (wpAny_bind (wpAny_rule (wpAny_pure ?_)))))))
  dsimp only
  unfold bindTo
  dsimp only
  refine wpAny_bind (wpAny_holding (wpAny_call (exc_get (s := ⟨hh, g, d, t + 1, os⟩) X L0 c (wpAny_pure ?_))))
  exact handed_on rfl (wpAny_pure h)
end
theorem kitx_exc {K : PySem.W.Frag} {x D : Addr} (c : ExcD K D) : PySem.W.KitX K (.ref x) (.ref D) (fun h => ∃ o, h.get? x = some o ∧ o.cls = .ref D) where
  ty := fun M h _ z => let ⟨o, h1, h2⟩ := z; h2 ▸ (PySem.W.Looks.ld h1).andThen .now
  it := fun M h X _ => by
    obtain ⟨bm, N, nm, q, bs, hdct, sn, sub, ab, col, dd, k0, k1, k2, k3, k5, mN, hC, _⟩ := ExcC.obj (C := D) ⟨c.ex⟩ X
    intro A' Q' E' s' k z
    unfold isType loadHead
    exact wpAny_bind (wpAny_loadPart (k _ _ hC) (wpAny_pure z))
  ne := fun h tp dd its n sl X htp => Bool.eq_false_iff.mpr fun q => by
    obtain ⟨bm, N, nm, q', bs, hdct, sn, sub, ab, col, dd, k0, k1, k2, k3, k5, mN, hC, _⟩ := ExcC.obj (C := D) ⟨c.ex⟩ X
    have e : D = tp := Value.ref.inj (beq_iff_eq.mp q)
    subst e
    have z : Value.type "type" = Value.type "tuple" := congrArg Obj.cls (Option.some.inj (hC.symm.trans htp))
    injection z with z
    exact absurd z (by decide)
  ca := fun X z k => let ⟨o, h1, h2⟩ := z; exc_class X h1 h2 c k
end L2
namespace L2
open PySem PySem.Spec PyProof.Rows
/-- isinstance(e, C), e caught here -/
theorem call_isinstX {X : Cx} {e D : Addr} {oe : Obj} (c : ExcD X.K D) : CallR (X.within e oe) (.builtin "isinstance") (fun xs H Q => oe.cls = .ref D ∧ ((∃ C b, xs = [.ref e, .ref C] ∧ PySem.W.kitOne X.K (.ref D) (.ref C) = some b ∧ Q (.bl b) H) ∨ ∃ T b, xs = [.ref e, .ty T] ∧ PySem.W.kitOne X.K (.ref D) (.type T) = some b ∧ Q (.bl b) H)) := by
  intro pins s σ H xs us Q I r h
  obtain ⟨hc, h⟩ := h
  have hp : s.heap.get? e = some oe := (I.pin (e, oe) (List.mem_append_left _ List.mem_cons_self)).1
  rcases h with ⟨C, b, rfl, k, q⟩ | ⟨T, b, rfl, k, q⟩
  · obtain ⟨u, w', rfl, rx, ry⟩ := vals2 r
    cases rx
    cases ry
    exact PySem.W.kia_one (kitx_exc c) I.kIn ⟨oe, hp, hc⟩ k (fun z => nomatch z) fun tk => ⟨.bl b, H, I.tok _, rfl, q⟩
  · obtain ⟨u, w', rfl, rx, ry⟩ := vals2 r
    cases rx
    cases (show w' = Value.type T from ry)
    exact PySem.W.kia_one (kitx_exc c) I.kIn ⟨oe, hp, hc⟩ k (fun z => nomatch z) fun tk => ⟨.bl b, H, I.tok _, rfl, q⟩
/-- isinstance(x, (T1, T2, ..)) of a plain thing -/
theorem call_isinstTs {X : Cx} : CallR X (.builtin "isinstance") (fun xs H Q => ∃ x t ty b, ∃ Ts : List String, xs = [x, .ref t] ∧ H t = some (.tup (Ts.map V.ty)) ∧ TyOf X.K H x ty ∧ (∃ T, ty = .type T) ∧ PySem.W.kitAny X.K ty (Ts.map Value.type) = some b ∧ Q (.bl b) H) := by
  intro pins s σ H xs us Q I r h
  obtain ⟨x, t, ty, b, Ts, rfl, ht, hty, ⟨T, rfl⟩, k, q⟩ := h
  obtain ⟨u, w', rfl, rx, ry⟩ := vals2 r
  cases ry
  obtain ⟨its, rv, ⟨⟨c1, d1, t1, l1⟩, ho, hc, n, hd⟩, _⟩ := I.tuple (SqT.of ht)
  simp only at hc hd
  subst hc hd
  have e : its = Ts.map Value.type := by
    have go : ∀ (Ts : List String) (us : List Value), Vals (Ts.map V.ty) us → us = Ts.map Value.type := by
      intro Ts
      induction Ts with
      | nil => intro us h; cases h; rfl
      | cons T Ts ih => intro us h; cases h with | cons a b => rw [show _ = Value.type T from a, ih _ b]; rfl
    exact go Ts its rv
  subst e
  have fin : ∀ tk, EP X pins σ Q (.bool b) { s with toks := tk } := fun tk => ⟨.bl b, H, I.tok _, rfl, q⟩
  cases hty with
  | non => cases (show u = Value.none from rx); exact PySem.W.kia_tup PySem.W.kitx_none I.kIn True.intro ho k (fun z => nomatch z) fin
  | bl y => cases (show u = Value.bool y from rx); exact PySem.W.kia_tup PySem.W.kitx_bool I.kIn True.intro ho k (fun z => nomatch z) fin
  | int i => obtain ⟨t, z⟩ := (show ∃ t, u = Value.int i t from rx); cases z; exact PySem.W.kia_tup PySem.W.kitx_int I.kIn True.intro ho k (fun z => nomatch z) fin
  | str y => obtain ⟨t, z⟩ := (show ∃ t, u = Value.str y t from rx); cases z; exact PySem.W.kia_tup PySem.W.kitx_str I.kIn True.intro ho k (fun z => nomatch z) fin
  | flt y => obtain ⟨t, z⟩ := (show ∃ t, u = Value.float y t from rx); cases z; exact PySem.W.kia_tup PySem.W.kitx_float I.kIn True.intro ho k (fun z => nomatch z) fin
  | @lst a xs ea =>
    cases (show u = Value.ref a from rx)
    obtain ⟨_, _, n, _, h1⟩ := (show ObjOk X.prog X.w H s.heap a (.lst xs) from I.hok a _ ea)
    exact PySem.W.kia_tup PySem.W.kitx_list I.kIn ⟨_, h1, rfl⟩ ho k (fun z => nomatch z) fin
  | @frz a ob xs ea =>
    cases (show u = Value.ref a from rx)
    obtain ⟨_, _, _, n, _, h1⟩ := (show ObjOk X.prog X.w H s.heap a (.frz ob (.lst xs)) from I.hok a _ ea)
    exact PySem.W.kia_tup PySem.W.kitx_list I.kIn ⟨_, h1, rfl⟩ ho k (fun z => nomatch z) fin
  | @tup a xs ea =>
    cases (show u = Value.ref a from rx)
    obtain ⟨_, _, _, p⟩ := (show ObjOk X.prog X.w H s.heap a (.tup xs) from I.hok a _ ea)
    obtain ⟨o, h1, h2, _⟩ := p
    exact PySem.W.kia_tup PySem.W.kitx_tuple I.kIn ⟨o, h1, h2⟩ ho k (fun z => nomatch z) fin
  | @dK a kvs ea =>
    cases (show u = Value.ref a from rx)
    obtain ⟨_, _, vs, _, p⟩ := (show ObjOk X.prog X.w H s.heap a (.dK kvs) from I.hok a _ ea)
    obtain ⟨o, es, ep, h1, h2, _⟩ := p
    exact PySem.W.kia_tup PySem.W.kitx_dict I.kIn ⟨o, h1, h2.1⟩ ho k (fun z => nomatch z) fin
  | @dT a kvs ea =>
    cases (show u = Value.ref a from rx)
    obtain ⟨_, _, xs, _, o, es, ep, h1, h2, _⟩ := (show ObjOk X.prog X.w H s.heap a (.dT kvs) from I.hok a _ ea)
    exact PySem.W.kia_tup PySem.W.kitx_dict I.kIn ⟨o, h1, h2.1⟩ ho k (fun z => nomatch z) fin
theorem PI.or {X : Cx} {tg iter : Expr} {w1 w2 : TI} (h1 : PI X tg iter w1) (h2 : PI X tg iter w2) : PI X tg iter (fun σ H R => w1 σ H R ∨ w2 σ H R) := by
  intro pins s σ H R I h
  rcases h with h | h
  · exact h1 pins s σ H R I h
  · exact h2 pins s σ H R I h
end L2

set_option Elab.async false
set_option linter.all false
set_option maxRecDepth 100000
set_option maxHeartbeats 4000000
/-! zip(a, b): two lists, or two tuples -/
namespace PySem
open Sem (wp)
section
variable {prog : Program} {w : World} {A : Around} {E : Value → Shared → Prop} {s : Shared}
/-- what a zip over two iterators is made of, all apart -/
structure ZipFar (z TI TO i1 i2 : Addr) (f1 f2 : List Addr) : Prop where
  z1 : z ∉ f1
  z2 : z ∉ f2
  o1 : TO ∉ f1
  o2 : TO ∉ f2
  c1 : i1 ∉ f2
  c2 : i2 ∉ f1
  Iz : TI ≠ z
  Oz : TO ≠ z
  iz : i1 ≠ z
  jz : i2 ≠ z
  IO : TI ≠ TO
  I1 : TI ≠ i1
  I2 : TI ≠ i2
  O1 : TO ≠ i1
  O2 : TO ≠ i2
  ij : i1 ≠ i2

theorem zipFar_new (n a b : Nat) (h1 : a < n) (h2 : b < n) : ZipFar (n + 4) (n + 2) (n + 3) n (n + 1) [n, a] [n + 1, b] := by
  constructor <;> intro h <;> first
    | (have h' : @Eq Nat _ _ := h; omega)
    | (rcases List.mem_cons.mp h with y | y
       · have y' : @Eq Nat _ _ := y; omega
       · have y' : @Eq Nat _ _ := List.mem_singleton.mp y; omega)
theorem zipD_item {z TI TO i1 i2 : Addr} {f1 f2 : List Addr} {n1 n2 k : Nat} {P1 P2 : Nat → Value → Prop} {S1 S2 : Nat → Heap → Prop} {a b : Value} {Q : Value → Shared → Prop} (D1 : Draws prog w A i1 f1 n1 P1 S1) (D2 : Draws prog w A i2 f2 n2 P2 S2) (D : ZipFar z TI TO i1 i2 f1 f2)
    (hz : IsZip s.heap z TI TO .none) (hTI : IsPair s.heap TI (.ref i1) (.ref i2)) (hTO : IsPair s.heap TO a b) (t1 : S1 k s.heap) (t2 : S2 k s.heap) (hk1 : k < n1) (hk2 : k < n2)
    (hQ : ∀ x y h' tk, P1 k x → P2 k y → IsZip h' z TI TO (rawInt s.heap.objs.size) → IsPair h' TO x y → S1 (k + 1) h' → S2 (k + 1) h' → IsPair h' s.heap.objs.size x y →
      (∀ c o, c ≠ z → c ≠ TO → c ≠ i1 → c ≠ i2 → s.heap.get? c = some o → h'.get? c = some o) → Q (.ref s.heap.objs.size) { s with heap := h', toks := tk }) :
    wpAny (model prog w) A (Builtin.«zip.__next__» ⟨[.ref z], []⟩) (fun fin s' => ∃ v, fin = .done (.ret v) ∧ Q v s') E s := by
  show wpAny _ _ (field (.ref z) 2 >>= _) _ _ _; refine wpAny_bind (wpAny_field hz rfl (x := .bool false) rfl ?_); show wpAny _ _ (field (.ref z) 3 >>= _) _ _ _
  refine wpAny_bind (wpAny_field hz rfl (x := .ref TI) rfl (wpAny_bind (wpAny_seqItems hTI rfl ?_)))
  show wpAny _ _ (Builtin.SmallTypes.ownedTupleIsFree (.ref z) >>= _) _ _ _; refine wpAny_bind ?_; unfold Builtin.SmallTypes.ownedTupleIsFree
  refine wpAny_bind (wpAny_field hz rfl (x := .none) rfl (wpAny_pure ?_)); simp only [if_true]
  refine wpAny_bind (wpAny_rule (wpAny_bind (wpAny_field hz rfl (x := .ref TO) rfl (wpAny_bind (wpAny_setField_rec hz (by simp) fun h₁ hz₁ hs₁ => ?_)))))
  replace hz₁ : IsZip h₁ z TI TO .ellipsis := hz₁
  refine wpAny_bind ?_; simp only [List.zipIdx_cons, List.zipIdx_nil, List.forIn_cons, List.forIn_nil]
  refine wpAny_bind (wpAny_bind (wpAny_onRaise ?_)); show wpAny _ _ (Builtin.SmallTypes.nextOf (.ref i1) >>= _) _ _ _
  have u1 : S1 k h₁ := D1.frame k _ _ t1 fun c hc o e => hs₁.extBut _ _ (fun q => D.z1 (q ▸ hc)) e
  refine wpAny_bind (D1.item k _ _ _ hk1 u1 fun x h₂ tk₂ hx v1 hs₂ => wpAny_pure ?_)
  have hTO₂ : IsPair h₂ TO a b := hs₂.extBut _ _ D.O1 (hs₁.extBut _ _ D.Oz hTO)
  refine wpAny_bind (wpAny_seqItems hTO₂ rfl (wpAny_bind (wpAny_updateSeq_pair hTO₂ fun h₃ hTO₃ hs₃ => ?_)))
  replace hTO₃ : IsPair h₃ TO x b := hTO₃
  refine wpAny_bind (wpAny_letGo (wpAny_pure ?_)); refine wpAny_bind (wpAny_bind (wpAny_onRaise ?_)); show wpAny _ _ (Builtin.SmallTypes.nextOf (.ref i2) >>= _) _ _ _
  have u2 : S2 k h₃ := D2.frame k _ _ t2 fun c hc o e => hs₃.extBut _ _ (fun q => D.o2 (q ▸ hc)) (hs₂.extBut _ _ (fun q => D.c1 (q ▸ hc)) (hs₁.extBut _ _ (fun q => D.z2 (q ▸ hc)) e))
  refine wpAny_bind (D2.item k _ _ _ hk2 u2 fun y h₄ tk₄ hy v2 hs₄ => wpAny_pure ?_)
  have hTO₄ : IsPair h₄ TO x b := hs₄.extBut _ _ D.O2 hTO₃
  refine wpAny_bind (wpAny_seqItems hTO₄ rfl (wpAny_bind (wpAny_updateSeq_pair hTO₄ fun h₅ hTO₅ hs₅ => ?_)))
  replace hTO₅ : IsPair h₅ TO x y := hTO₅
  refine wpAny_bind (wpAny_letGo (wpAny_pure (wpAny_pure ?_))); refine wpAny_bind (wpAny_seqItems hTO₅ rfl (wpAny_bind (wpAny_newTuple ?_)))
  have hsz : h₅.objs.size = s.heap.objs.size := by rw [hs₅.1, hs₄.1, hs₃.1, hs₂.1, hs₁.1]
  have hz₅ : IsZip h₅ z TI TO .ellipsis := hs₅.extBut _ _ D.Oz.symm (hs₄.extBut _ _ D.jz.symm (hs₃.extBut _ _ D.Oz.symm (hs₂.extBut _ _ D.iz.symm hz₁)))
  have hk₅ : ∀ c o, c ≠ z → c ≠ TO → c ≠ i1 → c ≠ i2 → s.heap.get? c = some o → h₅.get? c = some o := fun c o e1 e2 e3 e4 e => hs₅.extBut _ _ e2 (hs₄.extBut _ _ e4 (hs₃.extBut _ _ e2 (hs₂.extBut _ _ e3 (hs₁.extBut _ _ e1 e))))
  have w1 : S1 (k + 1) h₅ := D1.frame _ _ _ v1 fun c hc o e => hs₅.extBut _ _ (fun q => D.o1 (q ▸ hc)) (hs₄.extBut _ _ (fun q => D.c2 (q ▸ hc)) (hs₃.extBut _ _ (fun q => D.o1 (q ▸ hc)) e))
  have w2 : S2 (k + 1) h₅ := D2.frame _ _ _ v2 fun c hc o e => hs₅.extBut _ _ (fun q => D.o2 (q ▸ hc)) e
  have hzlt : z < h₅.objs.size := Heap.lt_size hz₅
  show wpAny _ _ (Builtin.SmallTypes.ownedTupleHandOut (.ref z) (.ref h₅.objs.size) >>= _) _ _ _; refine wpAny_bind ?_; unfold Builtin.SmallTypes.ownedTupleHandOut
  have hz₆ : IsZip (h₅.push { cls := .type "tuple", data := .seq #[x, y] }) z TI TO .ellipsis := Heap.get?_push_of_some _ hz₅
  refine wpAny_bind (wpAny_setField_rec hz₆ (by simp) fun h₇ hz₇ hs₇ => ?_); replace hz₇ : IsZip h₇ z TI TO (rawInt h₅.objs.size) := hz₇
  refine wpAny_setField_rec hz₇ (by simp) fun h₈ hz₈ hs₈ => ?_; replace hz₈ : IsZip h₈ z TI TO (rawInt h₅.objs.size) := hz₈
  have up : ∀ c o, c ≠ z → h₅.get? c = some o → h₈.get? c = some o := fun c o e1 e => hs₈.extBut _ _ e1 (hs₇.extBut _ _ e1 (Heap.get?_push_of_some _ e))
  have hT₈ : IsPair h₈ h₅.objs.size x y := hs₈.extBut _ _ (Nat.ne_of_gt hzlt) (hs₇.extBut _ _ (Nat.ne_of_gt hzlt) (Heap.get?_push_size _ rfl))
  rw [hsz] at hz₈ hT₈
  refine wpAny_pure ⟨_, rfl, ?_⟩; show Q (.ref h₅.objs.size) _; rw [hsz]
  exact hQ x y h₈ _ hx hy hz₈ (up _ _ D.Oz hTO₅) (D1.frame _ _ _ w1 fun c hc o e => up c o (fun q => D.z1 (q ▸ hc)) e) (D2.frame _ _ _ w2 fun c hc o e => up c o (fun q => D.z2 (q ▸ hc)) e) hT₈ fun c o e1 e2 e3 e4 e => up c o e1 (hk₅ c o e1 e2 e3 e4 e)

/-- the first of the two is at its end -/
theorem zipD_end {z TI TO i1 i2 : Addr} {f1 f2 : List Addr} {n1 : Nat} {P1 : Nat → Value → Prop} {S1 : Nat → Heap → Prop} {Q : Fin → Shared → Prop} (D1 : Draws prog w A i1 f1 n1 P1 S1) (D : ZipFar z TI TO i1 i2 f1 f2)
    (hz : IsZip s.heap z TI TO .none) (hTI : IsPair s.heap TI (.ref i1) (.ref i2)) (t1 : S1 n1 s.heap)
    (hE : ∀ h' e, (∀ c o, c ≠ z → c ≠ i1 → s.heap.get? c = some o → h'.get? c = some o) → (∃ o, h'.get? e = some o ∧ o.cls = .type "StopIteration") → E (.ref e) { s with heap := h' }) :
    wpAny (model prog w) A (Builtin.«zip.__next__» ⟨[.ref z], []⟩) Q E s := by
  show wpAny _ _ (field (.ref z) 2 >>= _) _ _ _; refine wpAny_bind (wpAny_field hz rfl (x := .bool false) rfl ?_); show wpAny _ _ (field (.ref z) 3 >>= _) _ _ _
  refine wpAny_bind (wpAny_field hz rfl (x := .ref TI) rfl (wpAny_bind (wpAny_seqItems hTI rfl ?_)))
  show wpAny _ _ (Builtin.SmallTypes.ownedTupleIsFree (.ref z) >>= _) _ _ _; refine wpAny_bind ?_; unfold Builtin.SmallTypes.ownedTupleIsFree
  refine wpAny_bind (wpAny_field hz rfl (x := .none) rfl (wpAny_pure ?_)); simp only [if_true]
  refine wpAny_bind (wpAny_rule (wpAny_bind (wpAny_field hz rfl (x := .ref TO) rfl (wpAny_bind (wpAny_setField_rec hz (by simp) fun h₁ hz₁ hs₁ => ?_)))))
  replace hz₁ : IsZip h₁ z TI TO .ellipsis := hz₁
  refine wpAny_bind ?_; simp only [List.zipIdx_cons, List.zipIdx_nil, List.forIn_cons, List.forIn_nil]
  refine wpAny_bind (wpAny_bind (wpAny_onRaise ?_)); show wpAny _ _ (Builtin.SmallTypes.nextOf (.ref i1) >>= _) _ _ _
  have u1 : S1 n1 h₁ := D1.frame n1 _ _ t1 fun c hc o e => hs₁.extBut _ _ (fun q => D.z1 (q ▸ hc)) e
  refine wpAny_bind (D1.done _ _ _ u1 fun h₂ e hs₂ he => ?_)
  obtain ⟨oe, hoe, hce⟩ := he
  have hz₂ : IsZip h₂ z TI TO .ellipsis := hs₂ _ _ D.iz.symm hz₁
  have hez : e ≠ z := fun x => by subst x; rw [hz₂] at hoe; cases hoe; simp at hce
  refine wpAny_setField_rec hz₂ (by simp) fun h₃ _ hs₃ => hE h₃ e (fun c o c1 c3 x => hs₃.extBut _ _ c1 (hs₂ _ _ c3 (hs₁.extBut _ _ c1 x))) ⟨oe, hs₃.extBut _ _ hez hoe, hce⟩

theorem nextZ_item {z TI TO i1 i2 : Addr} {f1 f2 : List Addr} {n1 n2 k : Nat} {P1 P2 : Nat → Value → Prop} {S1 S2 : Nat → Heap → Prop} {a b : Value} {Q : Option Value → Shared → Prop} (D1 : Draws prog w A.in1 i1 f1 n1 P1 S1) (D2 : Draws prog w A.in1 i2 f2 n2 P2 S2) (D : ZipFar z TI TO i1 i2 f1 f2)
    (hz : IsZip s.heap z TI TO .none) (hTI : IsPair s.heap TI (.ref i1) (.ref i2)) (hTO : IsPair s.heap TO a b) (t1 : S1 k s.heap) (t2 : S2 k s.heap) (hk1 : k < n1) (hk2 : k < n2)
    (hQ : ∀ x y h' tk, P1 k x → P2 k y → IsZip h' z TI TO (rawInt s.heap.objs.size) → IsPair h' TO x y → S1 (k + 1) h' → S2 (k + 1) h' → IsPair h' s.heap.objs.size x y →
      (∀ c o, c ≠ z → c ≠ TO → c ≠ i1 → c ≠ i2 → s.heap.get? c = some o → h'.get? c = some o) → Q (some (.ref s.heap.objs.size)) { s with heap := h', toks := tk }) :
    wpAny (model prog w) A (pyNext (.ref z)) Q E s := by
  have hT : s.TypeIs (.ref z) "zip" := ⟨_, hz, rfl⟩
  unfold pyNext
  exact wpAny_bind (wpAny_attempt (wpAny_callSpecial?_slot (name := Str.ofString "__next__") hT F.slot_zip_next (wpAny_call_entry F.slot_zip_next hT F.entry_zip_next
      (zipD_item D1 D2 D hz hTI hTO t1 t2 hk1 hk2 fun x y h' tk q1 q2 a1 a2 a3 a4 a5 a6 => wpAny_pure (hQ x y h' tk q1 q2 a1 a2 a3 a4 a5 a6)) (F.args_zip_next_1 _))))
theorem nextZ_end {z TI TO i1 i2 : Addr} {f1 f2 : List Addr} {n1 : Nat} {P1 : Nat → Value → Prop} {S1 : Nat → Heap → Prop} {Q : Option Value → Shared → Prop} (D1 : Draws prog w A.in1 i1 f1 n1 P1 S1) (D : ZipFar z TI TO i1 i2 f1 f2)
    (hz : IsZip s.heap z TI TO .none) (hTI : IsPair s.heap TI (.ref i1) (.ref i2)) (t1 : S1 n1 s.heap)
    (hQ : ∀ h', (∀ c o, c ≠ z → c ≠ i1 → s.heap.get? c = some o → h'.get? c = some o) → Q none { s with heap := h' }) : wpAny (model prog w) A (pyNext (.ref z)) Q E s := by
  have hT : s.TypeIs (.ref z) "zip" := ⟨_, hz, rfl⟩
  unfold pyNext
  refine wpAny_bind (wpAny_attempt (wpAny_callSpecial?_slot (name := Str.ofString "__next__") hT F.slot_zip_next (wpAny_call_entry F.slot_zip_next hT F.entry_zip_next (zipD_end D1 D hz hTI t1 fun h' e hk he => ?_) (F.args_zip_next_1 _))))
  obtain ⟨o, ho, hc⟩ := he
  exact wpAny_bind (wpAny_isInstance (T := "StopIteration") (b := true) ⟨o, ho, hc⟩ isSubtype_stop (wpAny_pure (hQ _ hk)))
end

/-! zip(t, u) of two tuples -/
abbrev zT1 (h : Heap) (l1 : Addr) : Heap := h.push { cls := .type "tuple_iterator", data := .fields #[.ref l1, .int 0 0] }
abbrev zT2 (h : Heap) (l1 l2 : Addr) : Heap := (zT1 h l1).push { cls := .type "tuple_iterator", data := .fields #[.ref l2, .int 0 0] }
abbrev zT3 (h : Heap) (l1 l2 : Addr) : Heap := (zT2 h l1 l2).push { cls := .type "tuple", data := .seq #[.ref h.objs.size, .ref (zT1 h l1).objs.size] }
abbrev zT4 (h : Heap) (l1 l2 : Addr) : Heap := (zT3 h l1 l2).push { cls := .type "tuple", data := .seq #[.none, .none] }
abbrev zT5 (h : Heap) (l1 l2 : Addr) : Heap := (zT4 h l1 l2).push { cls := .type "zip", data := .fields #[.none, .bool false, .bool false, .ref (zT2 h l1 l2).objs.size, .ref (zT3 h l1 l2).objs.size] }
theorem meets_zip_newT (l1 l2 : Addr) (xs ys : Array Value) :
    Meets (Builtin.«zip.__new__» ⟨[.type "zip", .ref l1, .ref l2], []⟩) (fun _ R s => s.heap.IsTuple l1 xs ∧ s.heap.IsTuple l2 ys ∧ R (.ok (.ret (.ref (zT4 s.heap l1 l2).objs.size))) { s with heap := zT5 s.heap l1 l2 }) :=
  .of_wp fun prog w A R s h => by
    obtain ⟨hp, g, d, tk, os⟩ := s; obtain ⟨p1, p2, h⟩ := h
    have isz := sub_zip
    have q1 : Heap.IsTuple (Shared.heap ⟨hp, g, d, tk, os⟩) l1 xs := p1
    have q2 : Heap.IsTuple (Shared.heap ⟨hp.push { cls := .type "tuple_iterator", data := .fields #[.ref l1, .int 0 0] }, g, d, tk, os⟩) l2 ys := let ⟨o, ho, r⟩ := p2; ⟨o, Heap.get?_push_of_some _ ho, r⟩
    wp_walk using wpAny_pyIter_tuple q1, wpAny_pyIter_tuple q2
    exact ⟨_, rfl, h⟩
section
variable {prog : Program} {w : World} {A : Around} {E : Value → Shared → Prop} {s : Shared}
theorem call_zip_T {l1 l2 : Addr} {xs ys : Array Value} {Q : Value → Shared → Prop} (p1 : s.heap.IsTuple l1 xs) (p2 : s.heap.IsTuple l2 ys)
    (h : ∀ h', IsZip h' (s.heap.objs.size + 4) (s.heap.objs.size + 2) (s.heap.objs.size + 3) .none → IsPair h' (s.heap.objs.size + 2) (.ref s.heap.objs.size) (.ref (s.heap.objs.size + 1)) →
      IsPair h' (s.heap.objs.size + 3) .none .none → h'.IsTupleIter s.heap.objs.size l1 0 → h'.IsTupleIter (s.heap.objs.size + 1) l2 0 → h'.objs.size = s.heap.objs.size + 5 →
      (∀ c o, s.heap.get? c = some o → h'.get? c = some o) → Q (.ref (s.heap.objs.size + 4)) { s with heap := h' }) :
    wpAny (model prog w) A (call (.type "zip") [.ref l1, .ref l2]) Q E s := by
  refine callType_new F.called_zip (by decide) (F.typeCall_zip_2 _ _) (F.newCall_zip_2 _ _) (fun obj => F.args_object_init_3 obj _ _) F.entry_zip_new (meets_zip_newT l1 l2 xs ys) ⟨p1, p2, ?_⟩
  have y1 : (zT1 s.heap l1).objs.size = s.heap.objs.size + 1 := Heap.size_push ..
  have y2 : (zT2 s.heap l1 l2).objs.size = s.heap.objs.size + 2 := by rw [Heap.size_push, y1]
  have y3 : (zT3 s.heap l1 l2).objs.size = s.heap.objs.size + 3 := by rw [Heap.size_push, y2]
  have y4 : (zT4 s.heap l1 l2).objs.size = s.heap.objs.size + 4 := by rw [Heap.size_push, y3]
  have y5 : (zT5 s.heap l1 l2).objs.size = s.heap.objs.size + 5 := by rw [Heap.size_push, y4]
  have r5 : (zT5 s.heap l1 l2).get? (zT4 s.heap l1 l2).objs.size = some _ := Heap.get?_push_size _ rfl
  have r4 : (zT5 s.heap l1 l2).get? (zT3 s.heap l1 l2).objs.size = some _ := Heap.get?_push_of_some _ (Heap.get?_push_size _ rfl)
  have r3 : (zT5 s.heap l1 l2).get? (zT2 s.heap l1 l2).objs.size = some _ := Heap.get?_push_of_some _ (Heap.get?_push_of_some _ (Heap.get?_push_size _ rfl))
  have r2 : (zT5 s.heap l1 l2).get? (zT1 s.heap l1).objs.size = some _ := Heap.get?_push_of_some _ (Heap.get?_push_of_some _ (Heap.get?_push_of_some _ (Heap.get?_push_size _ rfl)))
  have r1 : (zT5 s.heap l1 l2).get? s.heap.objs.size = some _ := Heap.get?_push_of_some _ (Heap.get?_push_of_some _ (Heap.get?_push_of_some _ (Heap.get?_push_of_some _ (Heap.get?_push_size _ rfl))))
  show _ ∧ _
  rw [y2, y3, y4] at r5; rw [y1, y2] at r3; rw [y3] at r4; rw [y1] at r2; rw [y4]
  exact ⟨⟨_, r5, rfl⟩, h _ r5 r3 r4 ⟨_, r1, rfl, rfl⟩ ⟨_, r2, rfl, rfl⟩ y5 fun c o x => Heap.get?_push_of_some _ (Heap.get?_push_of_some _ (Heap.get?_push_of_some _ (Heap.get?_push_of_some _ (Heap.get?_push_of_some _ x))))⟩
end
end PySem

namespace L2
open PySem PySem.Spec PyProof.Rows
/-- a kind of sequences, its iterators -/
structure SeqK where
  Sq : PySem.W.Frag → Hp → Addr → List V → Prop
  isq : Heap → Addr → Array Value → Prop
  iit : Heap → Addr → Addr → Nat → Prop
structure SeqK.Ok (k : SeqK) : Prop where
  get : ∀ {X : Cx} {pins : List (Addr × Obj)} {σ : St} {H : Hp} {s : Shared} {a : Addr} {xs : List V}, Inv X pins σ H s → k.Sq X.K H a xs → ∃ its : List Value, Vals xs its ∧ k.isq s.heap a its.toArray
  inj : ∀ {X : Cx} {pins : List (Addr × Obj)} {σ : St} {H : Hp} {s : Shared} {a : Addr} {xs ys : List V}, Inv X pins σ H s → k.Sq X.K H a xs → k.Sq X.K H a ys → xs = ys
  lt : ∀ {h : Heap} {a : Addr} {its : Array Value}, k.isq h a its → a < h.objs.size
  dr : ∀ {prog : Program} {w : World} {A : Around}, A.handled = none → ∀ (it l : Addr), l ≠ it → ∀ items : Array Value, Draws prog w A it [it, l] items.size (fun i v => items[i]? = some v) (fun i h => k.iit h it l i ∧ k.isq h l items)
  obj : ∀ {h : Heap} {it l : Addr} {i : Nat}, k.iit h it l i → ∃ o, h.get? it = some o ∧ ∀ v, o.data ≠ .cell v
  «at» : ∀ {h h' : Heap} {it l : Addr} {i : Nat}, k.iit h it l i → (∀ o, h.get? it = some o → h'.get? it = some o) → k.iit h' it l i
  zip : ∀ {prog : Program} {w : World} {A : Around} {E : Value → Shared → Prop} {s : Shared} {l1 l2 : Addr} {xs ys : Array Value} {Q : Value → Shared → Prop}, k.isq s.heap l1 xs → k.isq s.heap l2 ys →
    (∀ h', IsZip h' (s.heap.objs.size + 4) (s.heap.objs.size + 2) (s.heap.objs.size + 3) .none → IsPair h' (s.heap.objs.size + 2) (.ref s.heap.objs.size) (.ref (s.heap.objs.size + 1)) → IsPair h' (s.heap.objs.size + 3) .none .none →
      k.iit h' s.heap.objs.size l1 0 → k.iit h' (s.heap.objs.size + 1) l2 0 → (∀ c o, s.heap.get? c = some o → h'.get? c = some o) → Q (.ref (s.heap.objs.size + 4)) { s with heap := h' }) → wpAny (model prog w) A (call (.type "zip") [.ref l1, .ref l2]) Q E s
def kL : SeqK := ⟨SqL, Heap.IsList, Heap.IsListIter⟩
def kT : SeqK := ⟨SqT, Heap.IsTuple, Heap.IsTupleIter⟩
theorem kL_ok : kL.Ok where
  get := fun I h => let ⟨its, r, p, _⟩ := I.list h; ⟨its, r, p.isList⟩
  inj := fun I h1 h2 => I.list_inj h1 h2
  lt := fun p => let ⟨o, ho, _⟩ := p; Heap.lt_size ho
  dr := fun hh it l hne items => Draws.list hh it l hne items
  obj := fun ⟨o, e, c, d⟩ => ⟨o, e, fun v z => by rw [d] at z; cases z⟩
  «at» := fun x k => Heap.IsListIter.at x k
  zip := fun p1 p2 h => call_zip_2 p1 p2 fun h' a1 a2 a3 a4 a5 _ a7 => h h' a1 a2 a3 a4 a5 a7
theorem kT_ok : kT.Ok where
  get := fun I h => let ⟨its, r, p, _⟩ := I.tuple h; ⟨its, r, p⟩
  inj := fun I h1 h2 => I.tuple_inj h1 h2
  lt := fun p => let ⟨o, ho, _⟩ := p; Heap.lt_size ho
  dr := fun hh it l hne items => Draws.tuple hh it l hne items
  obj := fun ⟨o, e, c, d⟩ => ⟨o, e, fun v z => by rw [d] at z; cases z⟩
  «at» := fun x k => Heap.IsTupleIter.at x k
  zip := fun p1 p2 h => call_zip_T p1 p2 fun h' a1 a2 a3 a4 a5 _ a7 => h h' a1 a2 a3 a4 a5 a7

/-- at turn i a new pair of the i-th items -/
def Itz (S1 S2 : Hp → List V → Prop) : It :=
  ⟨fun i H => ∃ xs ys x y, S1 H xs ∧ S2 H ys ∧ xs[i]? = some x ∧ ys[i]? = some y, fun i H v H' => ∃ p x y, v = .ref p ∧ H p = none ∧ H' = upd H p (.tup [x, y]) ∧ (∀ xs, S1 H xs → xs[i]? = some x) ∧ ∀ ys, S2 H ys → ys[i]? = some y, fun i H => ∃ xs, S1 H xs ∧ xs.length = i⟩
theorem turn_zip {P : Program} {w : World} {K : PySem.W.Frag} {es : List Expr} {x1} {pos : Pos} {k : SeqK} (ok : k.Ok) (z TI TO i1 i2 a b : Addr) (D : ZipFar z TI TO i1 i2 [i1, a] [i2, b]) (ha : a ≠ i1) (hb : b ≠ i2) :
    Turn P w K (.Tuple es x1 pos) (Itz (fun H xs => k.Sq K H a xs) fun H ys => k.Sq K H b ys) [z, TI, TO, i1, i2] z (fun i h => IsZip h z TI TO .none ∧ IsPair h TI (.ref i1) (.ref i2) ∧ (∃ u v, IsPair h TO u v) ∧ k.iit h i1 a i ∧ k.iit h i2 b i) where
  mem := by simp
  obj := fun i h st c hc => by
    obtain ⟨hz, hTI, ⟨u, v, hTO⟩, h1, h2⟩ := st
    simp only [List.mem_cons, List.not_mem_nil, or_false] at hc
    rcases hc with rfl | rfl | rfl | rfl | rfl
    · exact ⟨_, hz, fun v z => by cases z⟩
    · exact ⟨_, hTI, fun v z => by cases z⟩
    · exact ⟨_, hTO, fun v z => by cases z⟩
    · exact ok.obj h1
    · exact ok.obj h2
  keep := fun i h h' st kp => by
    obtain ⟨hz, hTI, ⟨u, v, hTO⟩, h1, h2⟩ := st
    exact ⟨kp z (by simp) _ hz, kp TI (by simp) _ hTI, ⟨u, v, kp TO (by simp) _ hTO⟩, ok.at h1 fun o q => kp i1 (by simp) o q, ok.at h2 fun o q => kp i2 (by simp) o q⟩
  item := by
    intro X hP hw hK hc i pins s σ H E I hf st hg
    subst hP hw hK
    obtain ⟨hz, hTI, ⟨u, v, hTO⟩, h1, h2⟩ := st
    obtain ⟨xs, ys, x, y, q1, q2, e1, e2⟩ := hg
    obtain ⟨its, rv, p1⟩ := ok.get I q1
    obtain ⟨jts, rw', p2⟩ := ok.get I q2
    obtain ⟨ux, hux, rx⟩ := rv.get e1
    obtain ⟨uy, huy, ry⟩ := rw'.get e2
    have l1 : i < its.toArray.size := by rw [List.size_toArray]; exact (List.getElem?_eq_some_iff.mp hux).1
    have l2 : i < jts.toArray.size := by rw [List.size_toArray]; exact (List.getElem?_eq_some_iff.mp huy).1
    have hh : X.A.in1.handled = none := by simp [I.ok.hd hc]
    refine nextZ_item (ok.dr hh i1 a ha its.toArray) (ok.dr hh i2 b hb jts.toArray) D hz hTI hTO ⟨h1, p1⟩ ⟨h2, p2⟩ l1 l2 fun vx vy h' tk hvx hvy g1 g2 g3 g4 g5 g6 => ?_
    have ex : vx = ux := by
      have e : its[i]? = some vx := by simpa using hvx
      rw [hux] at e; exact (Option.some.inj e).symm
    have ey : vy = uy := by
      have e : jts[i]? = some vy := by simpa using hvy
      rw [huy] at e; exact (Option.some.inj e).symm
    subst ex ey
    refine ⟨_, rfl, wpAny_letOwnedTupleGo_zip (s := { s with heap := h', toks := tk }) g1 fun h2' hz2 hs2 => ?_⟩
    have hn : H s.heap.objs.size = none := I.hok.fresh (Nat.le_refl _)
    have lz : ∀ {c o}, s.heap.get? c = some o → s.heap.objs.size ≠ c := fun e => Nat.ne_of_gt (Heap.lt_size e)
    have li1 : s.heap.objs.size ≠ i1 := let ⟨o, e, _⟩ := ok.obj h1; lz e
    have li2 : s.heap.objs.size ≠ i2 := let ⟨o, e, _⟩ := ok.obj h2; lz e
    have kp : ∀ c o, c ∉ [z, TI, TO, i1, i2] → s.heap.get? c = some o → h2'.get? c = some o := fun c o hc' q => by
      have c1 : c ≠ z := fun e => hc' (by simp [e])
      exact (hs2.2 c c1).trans (g6 c o c1 (fun e => hc' (by simp [e])) (fun e => hc' (by simp [e])) (fun e => hc' (by simp [e])) q)
    have hT2 : IsPair h2' s.heap.objs.size vx vy := (hs2.2 _ (lz hz)).trans g5
    have I2 : Inv X pins σ (upd H s.heap.objs.size (.tup [x, y])) { s with heap := h2', toks := tk } := I.turnLaid (fp := [z, TI, TO, i1, i2]) kp hf (Nat.le_refl _) ⟨by show 2 ≤ sizeLine; rw [sizeLine_eq]; decide, [vx, vy], .cons rx (.cons ry .nil), ⟨_, hT2, rfl, _, rfl⟩⟩
    have hTI2 : IsPair h2' TI (.ref i1) (.ref i2) := (hs2.2 _ D.Iz).trans (g6 _ _ D.Iz D.IO D.I1 D.I2 hTI)
    refine ⟨.ref s.heap.objs.size, _, I2, rfl, ⟨s.heap.objs.size, x, y, rfl, hn, rfl, fun zs hz' => by rw [ok.inj I hz' q1]; exact e1, fun zs hz' => by rw [ok.inj I hz' q2]; exact e2⟩, ⟨hz2, hTI2, ⟨_, _, (hs2.2 _ D.Oz).trans g2⟩, ok.at g3.1 fun o q => (hs2.2 _ D.iz).trans q, ok.at g4.1 fun o q => (hs2.2 _ D.jz).trans q⟩, fun c hc' => ?_⟩
    have hcz : c ≠ s.heap.objs.size := by
      simp only [List.mem_cons, List.not_mem_nil, or_false] at hc'
      rcases hc' with rfl | rfl | rfl | rfl | rfl
      · exact (lz hz).symm
      · exact (lz hTI).symm
      · exact (lz hTO).symm
      · exact li1.symm
      · exact li2.symm
    rw [upd_ne hcz]; exact (hf c hc').1
  done := by
    intro X hP hw hK hc i pins s σ H E I hf st hg
    subst hP hw hK
    obtain ⟨hz, hTI, ⟨u, v, hTO⟩, h1, h2⟩ := st
    obtain ⟨xs, q1, hx⟩ := hg
    obtain ⟨its, rv, p1⟩ := ok.get I q1
    have hl := rv.length
    have hi : its.toArray.size = i := by rw [List.size_toArray, ← hl, hx]
    have hh : X.A.in1.handled = none := by simp [I.ok.hd hc]
    refine nextZ_end (ok.dr hh i1 a ha its.toArray) D hz hTI (by rw [hi]; exact ⟨h1, p1⟩) fun h' hk => ⟨rfl, ?_⟩
    exact I.turnedL (fp := [z, TI, TO, i1, i2]) (t' := s.toks) (fun c o hc' q => hk c o (fun e => hc' (by simp [e])) (fun e => hc' (by simp [e])) q) hf
  self := fun _ _ _ _ _ st h => wpAny_pyIter_zip st.1 h
def iZip (k : SeqK) (K : PySem.W.Frag) (ta : TA) : TI := fun σ H R => ta σ H fun vs H1 => ∃ a b xs ys, vs = [.ref a, .ref b] ∧ k.Sq K H1 a xs ∧ k.Sq K H1 b ys ∧ R (Itz (fun H xs => k.Sq K H a xs) fun H ys => k.Sq K H b ys) H1
section
variable {X : Cx}
theorem pi_zip {a b : Expr} {ta : TA} {p pos : Pos} {es : List Expr} {x1} {tpos : Pos} {k : SeqK} (ok : k.Ok) (hg : Gl X "zip") (hm : X.mg "zip" = none) (ha : PA X [a, b] ta) (hs : starEach [a, b] X.env = [(false, eval a X.env), (false, eval b X.env)] := by rfl) (hs2 : starEach [b] X.env = [(false, eval b X.env)] := by rfl) :
    PI X (.Tuple es x1 tpos) (.Call (.Name "zip" p) [a, b] [] pos) (iZip k X.K ta) := by
  intro pins s σ H R I h
  refine Call_ (ld_blt I hg hm boot_zip (PyProof.Rows.callWith_type1 (thn (ha pos pins s σ H _ I h) fun us s1 ⟨vs, H1, I1, r1, q1⟩ => ?_) (by rw [hs, hs2]) (by rw [hs2]; rfl)))
  obtain ⟨a', b', xs, ys, e, q1, q2, q⟩ := q1
  subst e
  obtain ⟨u, v, rfl, rx, ry⟩ := vals2 r1
  cases rx
  cases ry
  obtain ⟨its, rv, p1⟩ := ok.get I1 q1
  obtain ⟨jts, rw', p2⟩ := ok.get I1 q2
  have l1 := ok.lt p1
  have l2 := ok.lt p2
  refine ok.zip p1 p2 fun h' a1 a2 a3 a4 a5 a7 => ?_
  refine wpAny_pyIter_zip (s := { s1 with heap := h' }) a1 ?_
  have I2 : Inv X pins σ H1 { s1 with heap := h' } := I1.kept (t' := s1.toks) a7
  have far := zipFar_new s1.heap.objs.size a' b' l1 l2
  refine ⟨s1.heap.objs.size + 4, [s1.heap.objs.size + 4, s1.heap.objs.size + 2, s1.heap.objs.size + 3, s1.heap.objs.size, s1.heap.objs.size + 1], _, _, H1, rfl, I2, turn_zip ok _ _ _ _ _ a' b' far (Nat.ne_of_lt l1) (Nat.ne_of_lt (Nat.lt_succ_of_lt l2)), ⟨a1, a2, ⟨_, _, a3⟩, a4, a5⟩, fun c hc' => ?_, q⟩
  have hge : s1.heap.objs.size ≤ c := by
    simp only [List.mem_cons, List.not_mem_nil, or_false] at hc'
    rcases hc' with rfl | rfl | rfl | rfl | rfl
    · exact Nat.le_add_right _ 4
    · exact Nat.le_add_right _ 2
    · exact Nat.le_add_right _ 3
    · exact Nat.le_refl _
    · exact Nat.le_succ _
  exact I1.fpOk hge (I1.hok.fresh hge)
/-- over zip of two that stay, as long as each other -/
theorem for_zip {S1 S2 : Hp → List V → Prop} {xs ys : List V} {g : TG} {tb : TS} {D : Ends} {σ : St} {H : Hp} (hlen : xs.length = ys.length) (Pv : Nat → St → Hp → Prop) (h0 : Pv 0 σ H) (hl : ∀ i σ H, Pv i σ H → S1 H xs ∧ S2 H ys)
    (hs : ∀ i x y p σ H, xs[i]? = some x → ys[i]? = some y → Pv i σ H → H p = none → g (.ref p) σ (upd H p (.tup [x, y])) fun σ2 H2 => tb { D with nx := Pv (i + 1), ct := Pv (i + 1), bk := D.nx } σ2 H2) (hd : ∀ σ H, Pv xs.length σ H → D.nx σ H) :
    tForJ (Itz S1 S2) g tb D σ H := by
  refine ⟨fun i m σ H => m = xs.length - i ∧ i ≤ xs.length ∧ Pv i σ H, ⟨xs.length, by simp, Nat.zero_le _, h0⟩, ?_⟩
  rintro i m σ H ⟨rfl, hi, p⟩
  obtain ⟨q1, q2⟩ := hl i σ H p
  by_cases hlt : i < xs.length
  · have hlt2 : i < ys.length := by omega
    refine .inr ⟨⟨xs, ys, xs[i], ys[i], q1, q2, by simp [hlt], by simp [hlt2]⟩, Pv (i + 1), fun σ' H' p' => ⟨xs.length - (i + 1), by omega, rfl, hlt, p'⟩, fun x H' y => ?_⟩
    obtain ⟨pp, a, b, e1, e2, e3, e4, e5⟩ := y
    subst e1 e3
    exact hs i a b pp σ H (e4 xs q1) (e5 ys q2) p e2
  · have e : i = xs.length := by omega
    subst e
    exact .inl ⟨⟨xs, q1, rfl⟩, hd σ H p⟩
end
end L2

set_option Elab.async false
set_option linter.all false
set_option maxRecDepth 100000
set_option maxHeartbeats 4000000
/-! sums, places looked for in a list of places, lists of truths compared -/
namespace L2
open PySem PySem.Spec PyProof.Rows
section
variable {X : Cx}
theorem preSum_take (ns : List Int) : ∀ j : Nat, preSum (fun i => (ns[i]?).getD 0) j = (ns.take j).sum
  | 0 => by simp [preSum]
  | j + 1 => by
    have ih := preSum_take ns j
    rw [List.take_succ, List.sum_append]
    show preSum (fun i => (ns[i]?).getD 0) j + (ns[j]?).getD 0 = _
    rw [ih]
    cases ns[j]? <;> simp
theorem sum_small {B : Int} (hB : 0 ≤ B) : ∀ {ns : List Int}, (∀ n ∈ ns, -B ≤ n ∧ n ≤ B) → -(B * ns.length) ≤ ns.sum ∧ ns.sum ≤ B * ns.length
  | [], _ => by simp
  | n :: ns, h => by
    have ih := sum_small hB (ns := ns) fun m hm => h m (List.mem_cons_of_mem _ hm)
    have h0 := h n List.mem_cons_self
    rw [List.sum_cons, List.length_cons]
    have e : B * ((ns.length + 1 : Nat) : Int) = B * (ns.length : Int) + B := by
      rw [Int.natCast_add, Int.mul_add]; simp
    rw [e]
    constructor <;> omega
theorem call_sumI (hc : X.calm = true) : CallR X (.builtin "sum") (fun xs H Q => ∃ (p : Addr) (ns : List Int), xs = [.ref p] ∧ SqL X.K H p (ns.map V.int) ∧ ns.length ≤ 1000 ∧ (∀ n ∈ ns, -1000 ≤ n ∧ n ≤ 1000) ∧ Q (.int ns.sum) H) := by
  intro pins s σ H xs us Q I r h
  obtain ⟨p, ns, rfl, hq, hl, hn, q⟩ := h
  obtain ⟨u, rfl, rx⟩ := vals1 r
  cases rx
  obtain ⟨its, rv, pl, hz⟩ := I.list hq
  have hlen := rv.length
  rw [List.length_map] at hlen
  have hlt : p < s.heap.objs.size := by obtain ⟨_, e, _⟩ := pl.isList; exact Heap.lt_size e
  have long : ∀ z : Int, -1000000 ≤ z → z ≤ 1000000 → InLong z := fun z h1 h2 => by unfold InLong; omega
  refine call_sum_walk (wpAny_pyIter_list pl.isList ?_)
  refine ⟨s.heap.objs.size, [s.heap.objs.size, p], [s.heap.objs.size], its.toArray.size, _, _, fun i => (ns[i]?).getD 0, rfl, Walks.list (A := X.A.in1) (by simp [I.ok.hd hc]) _ p (Nat.ne_of_lt hlt) its.toArray, ⟨⟨_, Heap.get?_push_size _ rfl, rfl, rfl⟩, pl.isList.push _⟩, fun b hb => ?_, fun i v hP => ?_, fun j hj => ?_, fun h' tk t' hk => ?_⟩
  · show b < (s.heap.push _).objs.size
    rw [Heap.size_push]
    rcases List.mem_cons.mp hb with z | z
    · rw [z]; exact Nat.lt_succ_self _
    · rw [List.mem_singleton.mp z]; exact Nat.lt_succ_of_lt hlt
  · have hP' : its[i]? = some v := by simpa using hP
    have hi : i < ns.length := by rw [hlen]; exact (List.getElem?_eq_some_iff.mp hP').1
    obtain ⟨u, hu, ru⟩ := rv.get (i := i) (x := .int ns[i]) (by rw [List.getElem?_map]; simp [hi])
    rw [hP'] at hu; cases hu
    obtain ⟨t, rfl⟩ := ru
    exact ⟨t, by simp [hi]⟩
  · have hj' : j < ns.length := by rw [List.size_toArray] at hj; omega
    refine ⟨?_, ?_⟩
    · have := hn ns[j] (List.getElem_mem hj')
      have e : (ns[j]?).getD 0 = ns[j] := by simp [hj']
      show InLong ((ns[j]?).getD 0)
      rw [e]; exact long _ (by omega) (by omega)
    · rw [preSum_take]
      have := sum_small (B := 1000) (by decide) (ns := ns.take (j + 1)) fun n h => hn n (List.mem_of_mem_take h)
      have h2 : (ns.take (j + 1)).length ≤ 1000 := by rw [List.length_take]; omega
      exact long _ (by omega) (by omega)
  · have e : preSum (fun i => (ns[i]?).getD 0) its.toArray.size = ns.sum := by
      rw [preSum_take, List.size_toArray, ← hlen, List.take_of_length_le (Nat.le_refl _)]
    rw [e]
    exact ⟨.int _, H, I.kept (h' := h') (t' := tk) (LSm.kept_iter hk), ⟨_, rfl⟩, q⟩

/-- two places: the same or not -/
theorem eq_place {pins : List (Addr × Obj)} {σ : St} {H : Hp} {s : Shared} {A : Around} {a p : Addr} {c d : Int × Int} (I : Inv X pins σ H s) (hu : A.units < cLine) (ha : H a = some (.tup [.int d.1, .int d.2])) (hp : H p = some (.tup [.int c.1, .int c.2])) : SeqAt.EqAt A s (.ref a) (.ref p) (decide (d = c)) := by
  by_cases hap : a = p
  · subst hap
    rw [ha] at hp
    have e : d = c := by
      injection hp with z; injection z with z; injection z with z1 z2; injection z2 with z2 _
      exact Prod.ext (V.int.inj z1) (V.int.inj z2)
    rw [decide_eq_true e]
    exact SeqAt.EqAt.same _
  · obtain ⟨its, r1, p1, _⟩ := I.tuple (SqT.of ha)
    obtain ⟨jts, r2, p2, _⟩ := I.tuple (SqT.of hp)
    obtain ⟨x1, x2, rfl, ⟨t1, rfl⟩, ⟨t2, rfl⟩⟩ := r1.two
    obtain ⟨y1, y2, rfl, ⟨u1, rfl⟩, ⟨u2, rfl⟩⟩ := r2.two
    have key : SeqAt.RcAt A s (.ref a) (.ref p) ((List.range (min 2 2)).all (fun j => if j = 0 then d.1 == c.1 else d.2 == c.2) && (2 : Nat) == 2) := SeqAt.RcAt.tuples (items := #[.int d.1 t1, .int d.2 t2]) (items2 := #[.int c.1 u1, .int c.2 u2]) p1 p2 hu fun j h1 h2 => by
      match j, h1, h2 with
      | 0, _, _ => exact SeqAt.EqAt.int_int _ _ _ _
      | 1, _, _ => exact SeqAt.EqAt.int_int _ _ _ _
    have e : ((List.range (min 2 2)).all (fun j => if j = 0 then d.1 == c.1 else d.2 == c.2) && (2 : Nat) == 2) = decide (d = c) := by
      obtain ⟨d1, d2⟩ := d
      obtain ⟨c1, c2⟩ := c
      show (List.all [0, 1] _ && true) = _
      simp only [List.all_cons, List.all_nil, Bool.and_true, if_true, Nat.one_ne_zero, if_false]
      rw [Bool.eq_iff_iff]
      simp
    rw [e] at key
    exact SeqAt.EqAt.of_refs hap key
/-- a place in a list of places -/
def rInP : R2 := fun x y H Q => ∃ p l ps cs c, x = .ref p ∧ y = .ref l ∧ H p = some (.tup [.int c.1, .int c.2]) ∧ H l = some (.lst (ps.map V.ref)) ∧ PlAt H ps cs ∧ Q (.bl (decide (c ∈ cs))) H
theorem any_place {H : Hp} {c : Int × Int} {e : Value → Bool} (he : ∀ a d, H a = some (.tup [.int d.1, .int d.2]) → e (.ref a) = decide (d = c)) : ∀ {ps : List Addr} {cs : List (Int × Int)} {us : List Value}, PlAt H ps cs → Vals (ps.map V.ref) us → us.any e = decide (c ∈ cs)
  | _, _, _, .nil, .nil => by simp
  | p :: ps, d :: cs, u :: us, .cons h t, .cons r v => by
    cases (show u = Value.ref p from r)
    rw [List.any_cons, he p d h, any_place he t v, Bool.eq_iff_iff]
    simp only [Bool.or_eq_true, decide_eq_true_eq, List.mem_cons]
    constructor
    · rintro (z | z)
      · exact .inl z.symm
      · exact .inr z
    · rintro (z | z)
      · exact .inl z.symm
      · exact .inr z
theorem mem_place {H : Hp} : ∀ {ps : List Addr} {cs : List (Int × Int)} {us : List Value}, PlAt H ps cs → Vals (ps.map V.ref) us → ∀ u ∈ us, ∃ (a : Addr) (d : Int × Int), u = .ref a ∧ H a = some (.tup [.int d.1, .int d.2])
  | _, _, _, .nil, .nil => fun u hu => by cases hu
  | p :: ps, d :: cs, u :: us, .cons h t, .cons r v => fun w hw => by
    cases (show u = Value.ref p from r)
    rcases List.mem_cons.mp hw with z | z
    · exact ⟨p, d, z, h⟩
    · exact mem_place t v w z
open Classical in
theorem op_inP (hu : X.A.units + 1 < cLine) : OpR X (compareOp .In) rInP := by
  intro pins s σ H x y v u Q I rx ry h
  obtain ⟨p, l, ps, cs, c, rfl, rfl, hp, hl, hP, q⟩ := h
  cases rx
  cases ry
  obtain ⟨its, r, pl, hz⟩ := I.list (SqL.of hl)
  let e : Value → Bool := fun y => decide (∃ a, y = .ref a ∧ H a = some (.tup [.int c.1, .int c.2]))
  have he : ∀ a d, H a = some (.tup [.int d.1, .int d.2]) → e (.ref a) = decide (d = c) := fun a d ha => by
    show decide (∃ a', Value.ref a = .ref a' ∧ _) = _
    rw [Bool.eq_iff_iff]
    simp only [decide_eq_true_eq]
    constructor
    · rintro ⟨a', z1, z2⟩
      cases z1
      rw [ha] at z2
      injection z2 with z; injection z with z; injection z with z1 z2; injection z2 with z2 _
      exact Prod.ext (V.int.inj z1) (V.int.inj z2)
    · intro z
      subst z
      exact ⟨a, rfl, ha⟩
  refine SeqAt.in_listAt e pl.isList (fun y hy => ?_) ⟨.bl _, H, I, rfl, ?_⟩
  · obtain ⟨a, d, rfl, ha⟩ := mem_place hP r y (by simpa using hy)
    rw [he a d ha]
    exact eq_place I (show X.A.units + 1 < cLine from hu) ha hp
  · rw [show its.toArray.any e = its.any e by simp, any_place he hP r]
    exact q
/-- two lists of the same truths -/
theorem op_eqB (hu : X.A.units < cLine) : OpR X (compareOp .Eq) (fun x y H Q => ∃ a b bs, x = .ref a ∧ y = .ref b ∧ H a = some (.lst ((bs : List Bool).map V.bl)) ∧ H b = some (.lst (bs.map V.bl)) ∧ Q (.bl true) H) := by
  intro pins s σ H x y v u Q I rx ry h
  obtain ⟨a, b, bs, rfl, rfl, ha, hb, q⟩ := h
  cases rx
  cases ry
  obtain ⟨its, r1, p1, _⟩ := I.list (SqL.of ha)
  obtain ⟨jts, r2, p2, _⟩ := I.list (SqL.of hb)
  have e : its = jts := by
    have go : ∀ (bs : List Bool) (us ws : List Value), Vals (bs.map V.bl) us → Vals (bs.map V.bl) ws → us = ws := by
      intro bs
      induction bs with
      | nil => intro us ws h1 h2; cases h1; cases h2; rfl
      | cons b bs ih =>
        intro us ws h1 h2
        cases h1 with
        | cons a1 a2 =>
          cases h2 with
          | cons b1 b2 =>
            rw [show _ = Value.bool b from a1, show _ = Value.bool b from b1, ih _ _ a2 b2]
    exact go bs its jts r1 r2
  subst e
  refine SeqAt.eq_listAt (e := fun _ => true) p1.isList p2.isList rfl hu (fun j h1 h2 => SeqAt.EqAt.same _) ⟨.bl true, H, I, ?_, q⟩
  show Value.bool _ = Value.bool true
  congr 1
  simp
end
end L2

set_option Elab.async false
set_option linter.all false
set_option maxRecDepth 100000
set_option maxHeartbeats 4000000
/-! GRIDS of numbers: what is where -/
namespace Grd
abbrev Grid := List (List Int)
def pos (n : Int) : Bool := decide (0 ≤ n)
def road (n : Int) : Bool := decide (n = -1)
def rowF (f : Int → Bool) (r : Int) (xs : List Int) : List (Int × Int) := xs.zipIdx.filterMap fun q => if f q.1 then some (r, (q.2 : Int)) else none
def gridF (f : Int → Bool) (g : Grid) : List (Int × Int) := (g.zipIdx.map fun p => rowF f p.2 p.1).flatten
def atG (g : Grid) (c : Int × Int) : Int := (g.getD c.1.toNat []).getD c.2.toNat 0
def totR (xs : List Int) : Int := (xs.map fun n => if n > 0 then n else 0).sum
def totG (g : Grid) : Int := (g.map totR).sum
def cntR (xs : List Int) : Nat := (xs.filter pos).length
def cntG (g : Grid) : Nat := (g.map cntR).sum
/-- the row r, nothing beyond -/
def rowAt (g : Grid) (r : Int) : List Int := if 0 ≤ r then g.getD r.toNat [] else []
structure Good (g : Grid) (w : Nat) : Prop where
  h1 : 1 ≤ g.length
  h4 : g.length ≤ 4
  w1 : 1 ≤ w
  w5 : w ≤ 5
  len : ∀ xs ∈ g, xs.length = w
  num : ∀ xs ∈ g, ∀ n ∈ xs, -2 ≤ n ∧ n ≤ 99
  c1 : 1 ≤ cntG g
  c10 : cntG g ≤ 10

theorem zipIdx_take {α : Type} (xs : List α) (i : Nat) (x : α) (h : xs[i]? = some x) : (xs.take (i + 1)).zipIdx = (xs.take i).zipIdx ++ [(x, i)] := by
  have hlt : i < xs.length := (List.getElem?_eq_some_iff.mp h).1
  rw [List.take_succ, h, List.zipIdx_append]
  simp
  omega
theorem rowF_succ (f : Int → Bool) (r : Int) (xs : List Int) (i : Nat) (x : Int) (h : xs[i]? = some x) : rowF f r (xs.take (i + 1)) = rowF f r (xs.take i) ++ if f x then [(r, (i : Int))] else [] := by
  unfold rowF
  rw [zipIdx_take xs i x h, List.filterMap_append]
  congr 1
  cases hf : f x <;> simp [hf]
theorem gridF_succ (f : Int → Bool) (g : Grid) (i : Nat) (xs : List Int) (h : g[i]? = some xs) : gridF f (g.take (i + 1)) = gridF f (g.take i) ++ rowF f i xs := by
  unfold gridF
  rw [zipIdx_take g i xs h, List.map_append, List.flatten_append]
  simp
theorem totR_succ (xs : List Int) (i : Nat) (x : Int) (h : xs[i]? = some x) : totR (xs.take (i + 1)) = totR (xs.take i) + if x > 0 then x else 0 := by
  unfold totR
  rw [List.take_succ, h, List.map_append, List.sum_append]
  simp
theorem totG_succ (g : Grid) (i : Nat) (xs : List Int) (h : g[i]? = some xs) : totG (g.take (i + 1)) = totG (g.take i) + totR xs := by
  unfold totG
  rw [List.take_succ, h, List.map_append, List.sum_append]
  simp
theorem cntR_succ (xs : List Int) (x : Int) : cntR (xs ++ [x]) = cntR xs + if pos x then 1 else 0 := by
  unfold cntR
  rw [List.filter_append, List.length_append]
  cases hp : pos x <;> simp [hp]
theorem cntG_succ (g : Grid) (xs : List Int) : cntG (g ++ [xs]) = cntG g + cntR xs := by
  unfold cntG
  rw [List.map_append, List.sum_append]
  simp
theorem mem_rowF {f : Int → Bool} {r : Int} {xs : List Int} {c : Int × Int} : c ∈ rowF f r xs ↔ c.1 = r ∧ ∃ j x, c.2 = (j : Nat) ∧ xs[j]? = some x ∧ f x = true := by
  unfold rowF
  rw [List.mem_filterMap]
  constructor
  · rintro ⟨⟨x, j⟩, hm, e⟩
    have hx := List.mem_zipIdx_iff_getElem?.mp hm
    cases hf : f x with
    | true =>
      simp only [hf, if_true, Option.some.injEq] at e
      subst e
      exact ⟨rfl, j, x, rfl, hx, hf⟩
    | false => simp [hf] at e
  · rintro ⟨e1, j, x, e2, hx, hf⟩
    refine ⟨(x, j), List.mem_zipIdx_iff_getElem?.mpr hx, ?_⟩
    simp only [hf, if_true, Option.some.injEq]
    exact Prod.ext e1.symm e2.symm
theorem mem_gridF {f : Int → Bool} {g : Grid} {c : Int × Int} : c ∈ gridF f g ↔ ∃ (i j : Nat) (xs : List Int) (x : Int), c = ((i : Int), (j : Int)) ∧ g[i]? = some xs ∧ xs[j]? = some x ∧ f x = true := by
  unfold gridF
  rw [List.mem_flatten]
  constructor
  · rintro ⟨l, hl, hc⟩
    obtain ⟨⟨xs, i⟩, hm, rfl⟩ := List.mem_map.mp hl
    obtain ⟨e1, j, x, e2, hx, hf⟩ := mem_rowF.mp hc
    exact ⟨i, j, xs, x, Prod.ext e1 e2, List.mem_zipIdx_iff_getElem?.mp hm, hx, hf⟩
  · rintro ⟨i, j, xs, x, rfl, hg, hx, hf⟩
    exact ⟨rowF f i xs, List.mem_map.mpr ⟨(xs, i), List.mem_zipIdx_iff_getElem?.mpr hg, rfl⟩, mem_rowF.mpr ⟨rfl, j, x, rfl, hx, hf⟩⟩
theorem atG_of {g : Grid} {i j : Nat} {xs : List Int} {x : Int} (h1 : g[i]? = some xs) (h2 : xs[j]? = some x) : atG g ((i : Int), (j : Int)) = x := by
  unfold atG
  simp [List.getD_eq_getElem?_getD, h1, h2]
/-- the values at the cells -/
theorem row_vals {r : Int} : ∀ (pre xs : List Int) (v : Int × Int → Int), (∀ j x, xs[j]? = some x → v (r, ((pre.length + j : Nat) : Int)) = x) → (((xs.zipIdx pre.length).filterMap fun q => if pos q.1 then some (r, (q.2 : Int)) else none).map v) = xs.filter pos
  | _, [], _, _ => by simp
  | pre, x :: xs, v, h => by
    have ih := row_vals (r := r) (pre ++ [x]) xs v fun j y hy => by
      have := h (j + 1) y (by simpa using hy)
      rw [List.length_append]
      have e : pre.length + [x].length + j = pre.length + (j + 1) := by simp; omega
      rw [e]; exact this
    have h0 := h 0 x rfl
    rw [List.length_append] at ih
    rw [List.zipIdx_cons]
    have ih' : (((xs.zipIdx (pre.length + 1)).filterMap fun q => if pos q.1 then some (r, (q.2 : Int)) else none).map v) = xs.filter pos := ih
    cases hp : pos x with
    | true =>
      rw [List.filterMap_cons_some (b := (r, (pre.length : Int))) (by simp [hp]), List.map_cons, ih', List.filter_cons_of_pos hp]
      congr 1
    | false =>
      rw [List.filterMap_cons_none (by simp [hp]), ih', List.filter_cons_of_neg (by simp [hp])]
theorem vals_cells (g : Grid) : (gridF pos g).map (atG g) = (g.map fun xs => xs.filter pos).flatten := by
  unfold gridF
  rw [List.map_flatten, List.map_map]
  have e : g.zipIdx.map (List.map (atG g) ∘ fun p => rowF pos p.2 p.1) = g.zipIdx.map fun p => p.1.filter pos := by
    refine List.map_congr_left fun p hp => ?_
    obtain ⟨xs, i⟩ := p
    have hx := List.mem_zipIdx_iff_getElem?.mp hp
    show (rowF pos i xs).map (atG g) = xs.filter pos
    exact row_vals (r := (i : Int)) [] xs (atG g) fun j x hj => by
      simp only [List.length_nil, Nat.zero_add]
      exact atG_of hx hj
  rw [e]
  congr 1
  have : (fun p : List Int × Nat => p.1.filter pos) = (fun xs => xs.filter pos) ∘ Prod.fst := rfl
  rw [this, ← List.map_map, List.zipIdx_map_fst]
theorem sum_filter (xs : List Int) : (xs.filter pos).sum = totR xs := by
  unfold totR
  induction xs with
  | nil => rfl
  | cons x xs ih =>
    rw [List.map_cons, List.sum_cons, ← ih]
    by_cases h : 0 ≤ x
    · rw [List.filter_cons_of_pos (by simp [pos, h]), List.sum_cons]
      congr 1
      split <;> omega
    · rw [List.filter_cons_of_neg (by simp [pos, h])]
      rw [if_neg (by omega)]
      omega
theorem sum_flat : ∀ g : Grid, (g.map fun xs => xs.filter pos).flatten.sum = totG g
  | [] => rfl
  | xs :: g => by
    rw [List.map_cons, List.flatten_cons, List.sum_append, sum_filter, sum_flat g]
    unfold totG
    rw [List.map_cons, List.sum_cons]
theorem sum_cells (g : Grid) : ((gridF pos g).map (atG g)).sum = totG g := by rw [vals_cells, sum_flat]
theorem len_cells (g : Grid) : (gridF pos g).length = cntG g := by
  have := congrArg List.length (vals_cells g)
  rw [List.length_map] at this
  rw [this, List.length_flatten, List.map_map]
  rfl
/-- what stands at (r, c): the law's own look -/
def numAt (g : Grid) (w : Nat) (r c : Int) : Int := if 0 ≤ r ∧ r < g.length ∧ 0 ≤ c ∧ c < w then atG g (r, c) else -2
theorem num_in {g : Grid} {w : Nat} (G : Good g w) {r c : Int} (h : 0 ≤ r ∧ r < g.length ∧ 0 ≤ c ∧ c < w) : ∃ xs, g[r.toNat]? = some xs ∧ xs[c.toNat]? = some (atG g (r, c)) ∧ rowAt g r = xs := by
  obtain ⟨h1, h2, h3, h4⟩ := h
  have l1 : r.toNat < g.length := by omega
  have e1 : g[r.toNat]? = some g[r.toNat] := by simp [l1]
  have lw := G.len _ (List.getElem_mem l1)
  have l2 : c.toNat < (g[r.toNat]).length := by omega
  refine ⟨g[r.toNat], e1, ?_, ?_⟩
  · have e2 : (g[r.toNat])[c.toNat]? = some (g[r.toNat])[c.toNat] := by simp [l2]
    have := atG_of e1 e2
    have er : ((r.toNat : Nat) : Int) = r := by omega
    have ec : ((c.toNat : Nat) : Int) = c := by omega
    rw [er, ec] at this
    rw [this, e2]
  · unfold rowAt
    rw [if_pos h1]
    simp [List.getD_eq_getElem?_getD, l1]
theorem mem_cells {g : Grid} {w : Nat} (G : Good g w) (r c : Int) : (r, c) ∈ gridF pos g ↔ 0 ≤ numAt g w r c := by
  unfold numAt
  constructor
  · intro h
    obtain ⟨i, j, xs, x, e, hg, hx, hf⟩ := mem_gridF.mp h
    injection e with e1 e2
    have li := (List.getElem?_eq_some_iff.mp hg).1
    have lj := (List.getElem?_eq_some_iff.mp hx).1
    have lw := G.len xs (List.mem_of_getElem? hg)
    rw [if_pos ⟨by omega, by omega, by omega, by omega⟩, e1, e2, atG_of hg hx]
    simpa [pos] using hf
  · intro h
    by_cases hi : 0 ≤ r ∧ r < g.length ∧ 0 ≤ c ∧ c < w
    · rw [if_pos hi] at h
      obtain ⟨xs, e1, e2, _⟩ := num_in G hi
      refine mem_gridF.mpr ⟨r.toNat, c.toNat, xs, _, ?_, e1, e2, by simp [pos, h]⟩
      exact Prod.ext (by show r = _; omega) (by show c = _; omega)
    · rw [if_neg hi] at h; omega
theorem numAt_cell {g : Grid} {w : Nat} {r c : Int} (h : 0 ≤ numAt g w r c) : numAt g w r c = atG g (r, c) := by
  unfold numAt at *
  split
  · rfl
  · rename_i hn; rw [if_neg hn] at h; omega
/-- one step of the law's loop over the columns of row r -/
theorem step_col {g : Grid} {w : Nat} (G : Good g w) (f : Int → Bool) (hf : f (-2) = false) (r : Int) (j : Nat) :
    rowF f r ((rowAt g r).take (j + 1 - 1)) = rowF f r ((rowAt g r).take (j - 1)) ++ (if f (numAt g w r ((j : Int) - 1)) then [(r, (j : Int) - 1)] else []) ∧
    totR ((rowAt g r).take (j + 1 - 1)) = totR ((rowAt g r).take (j - 1)) + (if numAt g w r ((j : Int) - 1) > 0 then numAt g w r ((j : Int) - 1) else 0) := by
  rw [Nat.add_sub_cancel]
  by_cases hin : 0 ≤ r ∧ r < g.length ∧ 0 ≤ (j : Int) - 1 ∧ (j : Int) - 1 < w
  · obtain ⟨xs, e1, e2, e3⟩ := num_in G hin
    have hn : numAt g w r ((j : Int) - 1) = atG g (r, (j : Int) - 1) := by unfold numAt; rw [if_pos hin]
    rw [e3, hn]
    have ej : ((j : Int) - 1).toNat = j - 1 := by omega
    rw [ej] at e2
    have hj : j = (j - 1) + 1 := by omega
    have ec : ((j - 1 : Nat) : Int) = (j : Int) - 1 := by omega
    constructor
    · have := rowF_succ f r xs (j - 1) _ e2
      rw [← hj, ec] at this
      exact this
    · have := totR_succ xs (j - 1) _ e2
      rw [← hj] at this
      exact this
  · have hn : numAt g w r ((j : Int) - 1) = -2 := by unfold numAt; rw [if_neg hin]
    rw [hn, hf]
    simp only [Bool.false_eq_true, if_false, List.append_nil]
    have e : (rowAt g r).take j = (rowAt g r).take (j - 1) := by
      by_cases hr : 0 ≤ r ∧ r < g.length
      · have lw : (rowAt g r).length = w := by
          unfold rowAt
          rw [if_pos hr.1]
          have l1 : r.toNat < g.length := by omega
          simp only [List.getD_eq_getElem?_getD, l1, List.getElem?_eq_getElem, Option.getD_some]
          exact G.len _ (List.getElem_mem l1)
        by_cases hj : j = 0
        · subst hj; rfl
        · have : w ≤ j - 1 := by omega
          rw [List.take_of_length_le (by omega), List.take_of_length_le (by omega)]
      · have : rowAt g r = [] := by
          unfold rowAt
          split
          · rename_i h0
            have : g.length ≤ r.toNat := by omega
            simp [List.getD_eq_getElem?_getD, List.getElem?_eq_none this]
          · rfl
        rw [this]; simp
    rw [e]
    simp
/-- one step over the rows -/
theorem step_row (g : Grid) (f : Int → Bool) (i : Nat) : gridF f (g.take (i + 1 - 1)) = gridF f (g.take (i - 1)) ++ rowF f ((i : Int) - 1) (rowAt g ((i : Int) - 1)) ∧ totG (g.take (i + 1 - 1)) = totG (g.take (i - 1)) + totR (rowAt g ((i : Int) - 1)) := by
  rw [Nat.add_sub_cancel]
  by_cases hi : 1 ≤ i ∧ i - 1 < g.length
  · have e1 : g[i - 1]? = some g[i - 1] := by simp [hi.2]
    have er : rowAt g ((i : Int) - 1) = g[i - 1] := by
      unfold rowAt
      rw [if_pos (by omega)]
      have : ((i : Int) - 1).toNat = i - 1 := by omega
      rw [this]
      simp [List.getD_eq_getElem?_getD, hi.2]
    have hii : i = (i - 1) + 1 := by omega
    have ec : ((i - 1 : Nat) : Int) = (i : Int) - 1 := by omega
    rw [er]
    constructor
    · have := gridF_succ f g (i - 1) _ e1
      rw [← hii, ec] at this
      exact this
    · have := totG_succ g (i - 1) _ e1
      rw [← hii] at this
      exact this
  · have er : rowAt g ((i : Int) - 1) = [] := by
      unfold rowAt
      split
      · rename_i h0
        have : g.length ≤ ((i : Int) - 1).toNat := by omega
        rw [List.getD_eq_getElem?_getD, List.getElem?_eq_none this]; rfl
      · rfl
    have et : g.take i = g.take (i - 1) := by
      by_cases h0 : i = 0
      · subst h0; rfl
      · rw [List.take_of_length_le (by omega), List.take_of_length_le (by omega)]
    rw [er, et]
    simp [rowF, totR]
theorem rowAt_all {g : Grid} {w : Nat} (G : Good g w) (r : Int) : (rowAt g r).take (9 - 1) = rowAt g r := by
  refine List.take_of_length_le ?_
  unfold rowAt
  split
  · by_cases l1 : r.toNat < g.length
    · have := G.len _ (List.getElem_mem l1)
      have w5 := G.w5
      simp only [List.getD_eq_getElem?_getD, l1, List.getElem?_eq_getElem, Option.getD_some]
      omega
    · simp [List.getD_eq_getElem?_getD, List.getElem?_eq_none (Nat.le_of_not_lt l1)]
  · simp
theorem grid_all {g : Grid} {w : Nat} (G : Good g w) : g.take (7 - 1) = g := List.take_of_length_le (by have := G.h4; omega)
end Grd

set_option Elab.async false
set_option linter.all false
set_option maxRecDepth 100000
set_option maxHeartbeats 4000000
namespace M42
open PySem L2 PyProof.Rows
def top (i : Nat) : Stmt := PySem.Challenge.pw_meadshares_k42_cells_roads_and_worths.main.body.getD i (.Pass ⟨0, 0, 0, 0⟩)
abbrev sNumber : Stmt := top 6
abbrev sWithin : Stmt := top 7
abbrev sTuple : Stmt := top 8
abbrev sRow : Stmt := top 17
abbrev sMead : Stmt := top 18
abbrev sPlaces : Stmt := top 20
/-- the names that the text leaves to Python -/
structure Txt (mg : Str → Option Value) : Prop where
  isinstance : mg "isinstance" = none
  int : mg "int" = none
  bool : mg "bool" = none
  tuple : mg "tuple" = none
  len : mg "len" = none
  all : mg "all" = none
  enumerate : mg "enumerate" = none
  rows : ∃ t, mg "MOST_ROWS" = some (.int 4 t)
  cols : ∃ t, mg "MOST_COLUMNS" = some (.int 6 t)
  cells : ∃ t, mg "MOST_CELLS" = some (.int 10 t)
  worth : ∃ t, mg "MOST_WORTH" = some (.int 99 t)
  water : ∃ t, mg "WATER" = some (.int (-2) t)
def spNumber : Sp := fun vs H Q _ => ∃ v, vs = [v] ∧ Kn H 1 v ∧ Q (.bl (isInt v)) H
def spWithin : Sp := fun vs H Q _ => ∃ v lo hi, vs = [v, .int lo, .int hi] ∧ Kn H 1 v ∧ Q (.bl (numIn lo hi v)) H
def tupIn (H : Hp) (lo hi : Int) (v : V) : Bool := match tupOf H v with | some xs => decide (lo ≤ xs.length) && decide ((xs.length : Int) ≤ hi) | none => false
def spTuple : Sp := fun vs H Q _ => ∃ v lo hi, vs = [v, .int lo, .int hi] ∧ Kn H 1 v ∧ Q (.bl (tupIn H lo hi v)) H
def spRow : Sp := fun vs H Q _ => ∃ v, vs = [v] ∧ Kn H 2 v ∧ ∀ H', Same H H' → Q (.bl (rowOk H v)) H'
def spMead : Sp := fun vs H Q _ => ∃ v, vs = [v] ∧ Kn H 3 v ∧ ∀ H', Same H H' → Q (.bl (goodM H v)) H'
section
variable {P : Program} {w : World} {K : PySem.W.Frag} {mg : Str → Option Value} {base : Heap}
theorem scNumber : FnScope ["thing"] ["thing"] (defScope sNumber) := ⟨rfl, rfl, rfl, by decide +kernel, rfl, by decide +kernel, by decide +kernel⟩
theorem ok_number {f : Addr} {fd : FuncData} (F : Fun K "is_number" "is_number" sNumber f fd) (T : Txt mg) : FnOk P w K mg base CX0 1 f fd ["thing"] spNumber := by
  refine F.ok scNumber (fun vs H Q E h => ?_) (fun cdv A outer s H vs Q E hr h => ?_)
  · obtain ⟨v, rfl, _⟩ := h; rfl
  · obtain ⟨v, rfl, k, q⟩ := h
    refine ⟨_, pss_one (ps_ret (pe_and (pe_callB call_isinst rfl T.isinstance boot_isinstance (pa_cons (pv 0) (pa_cons (pe_bltn (v := .ty "int") rfl T.int boot_int rfl) pa_nil)))
      (pe_one (pe_not (pe_callB call_isinst rfl T.isinstance boot_isinstance (pa_cons (pv 0) (pa_cons (pe_bltn (v := .ty "bool") rfl T.bool boot_bool rfl) pa_nil))))))), ?_⟩
    obtain ⟨t, ty, k1, k2, _⟩ := ty_of (K := K) k
    refine ⟨_, rfl, _, "int", t, _, rfl, ty, k1, _, rfl, iteB (fun e => ?_) fun e => ?_⟩
    · refine ⟨_, rfl, _, "bool", t, _, rfl, ty, k2, _, rfl, ?_⟩
      have : (!isBl v) = isInt v := by cases v <;> first | rfl | cases e
      rw [this]; exact q
    · have : isInt v = false := (Bool.or_eq_false_iff.mp e).1
      rw [this] at q; exact q
theorem scWithin : FnScope ["thing", "least", "most"] ["thing", "least", "most"] (defScope sWithin) := ⟨rfl, rfl, rfl, by decide +kernel, rfl, by decide +kernel, by decide +kernel⟩
theorem ok_within {f g : Addr} {fd gd : FuncData} (F : Fun K "is_number_within" "is_number_within" sWithin f fd) (T : Txt mg) (G : Fun K "is_number" "is_number" sNumber g gd) (b : Binds K gd ["thing"] []) (m : mg "is_number" = some (.ref g)) : FnOk P w K mg base CX0 2 f fd ["thing", "least", "most"] spWithin := by
  have GN : FnOk P w K mg base CX0 1 g gd ["thing"] spNumber := ok_number G T
  refine F.ok scWithin (fun vs H Q E h => ?_) (fun cdv A outer s H vs Q E hr h => ?_)
  · obtain ⟨v, lo, hi, rfl, _⟩ := h; rfl
  · obtain ⟨v, lo, hi, rfl, k, q⟩ := h
    refine ⟨_, pss_one (ps_ret (pe_and (pe_call GN hr rfl m G.kp b .nil pass0 (pa_cons (pv 0) pa_nil)) (pe_one (pe_chain op_le op_le (pv 1) (pv 0) (pv 2))))), ?_⟩
    refine ⟨_, rfl, v, rfl, k, _, rfl, iteB (fun e => ?_) fun e => ?_⟩
    · cases v with
      | int i =>
        refine ⟨_, rfl, _, rfl, _, _, rfl, rfl, _, rfl, ite2d (fun h1 => ?_) fun h1 => ?_⟩
        · refine ⟨_, rfl, _, _, rfl, rfl, ?_⟩
          have : numIn lo hi (.int i) = decide (i ≤ hi) := by simp [numIn, h1]
          rw [this] at q; exact q
        · have : numIn lo hi (.int i) = false := by simp [numIn, h1]
          rw [this] at q; exact q
      | _ => cases e
    · have : numIn lo hi v = false := by cases v <;> first | rfl | cases e
      rw [this] at q; exact q
theorem scTuple : FnScope ["thing", "least", "most"] ["thing", "least", "most"] (defScope sTuple) := ⟨rfl, rfl, rfl, by decide +kernel, rfl, by decide +kernel, by decide +kernel⟩
theorem ok_tuple {f : Addr} {fd : FuncData} (F : Fun K "is_tuple_within" "is_tuple_within" sTuple f fd) (T : Txt mg) : FnOk P w K mg base CX0 1 f fd ["thing", "least", "most"] spTuple := by
  refine F.ok scTuple (fun vs H Q E h => ?_) (fun cdv A outer s H vs Q E hr h => ?_)
  · obtain ⟨v, lo, hi, rfl, _⟩ := h; rfl
  · obtain ⟨v, lo, hi, rfl, k, q⟩ := h
    refine ⟨_, pss_one (ps_ret (pe_and (pe_callB call_isinst rfl T.isinstance boot_isinstance (pa_cons (pv 0) (pa_cons (pe_bltn (v := .ty "tuple") rfl T.tuple boot_tuple rfl) pa_nil)))
      (pe_one (pe_chain op_le op_le (pv 1) (pe_callB call_len_seq rfl T.len PySem.boot_len (pa_cons (pv 0) pa_nil)) (pv 2))))), ?_⟩
    obtain ⟨t, ty, _, _, k3⟩ := ty_of (K := K) k
    refine ⟨_, rfl, _, "tuple", t, _, rfl, ty, k3, _, rfl, iteB (fun e => ?_) fun e => ?_⟩
    · obtain ⟨xs, ex⟩ := Option.isSome_iff_exists.mp e
      obtain ⟨a, rfl, ha⟩ := of_tupOf ex
      refine ⟨_, rfl, _, rfl, a, xs, rfl, .inr (SqT.of ha), _, _, rfl, rfl, _, rfl, ite2d (fun h1 => ?_) fun h1 => ?_⟩
      · refine ⟨_, rfl, _, _, rfl, rfl, ?_⟩
        have : tupIn H lo hi (.ref a) = decide ((xs.length : Int) ≤ hi) := by simp [tupIn, ex, h1]
        rw [this] at q; exact q
      · have : tupIn H lo hi (.ref a) = false := by simp [tupIn, ex, h1]
        rw [this] at q; exact q
    · have : tupIn H lo hi v = false := by
        unfold tupIn
        cases z : tupOf H v with
        | none => rfl
        | some xs => rw [z] at e; cases e
      rw [this] at q; exact q
theorem scRow : FnScope ["thing"] ["thing"] (defScope sRow) := ⟨rfl, rfl, rfl, by decide +kernel, rfl, by decide +kernel, by decide +kernel⟩
theorem ok_row {f g1 g2 : Addr} {fd gd1 gd2 : FuncData} (F : Fun K "is_row" "is_row" sRow f fd) (T : Txt mg) (b1 : Binds K gd1 ["thing", "least", "most"] []) (m1 : mg "is_tuple_within" = some (.ref g1)) (p1 : PySem.W.keepIn K (.ref g1) = true) (G1 : FnOk P w K mg base CX0 1 g1 gd1 ["thing", "least", "most"] spTuple)
    (b2 : Binds K gd2 ["thing", "least", "most"] []) (m2 : mg "is_number_within" = some (.ref g2)) (p2 : PySem.W.keepIn K (.ref g2) = true) (G2 : FnOk P w K mg base CX0 2 g2 gd2 ["thing", "least", "most"] spWithin) : FnOk P w K mg base CX0 3 f fd ["thing"] spRow := by
  obtain ⟨t1, mCol⟩ := T.cols
  obtain ⟨t2, mWa⟩ := T.water
  obtain ⟨t3, mWo⟩ := T.worth
  refine F.ok scRow (fun vs H Q E h => ?_) (fun cdv A outer s H vs Q E hr h => ?_)
  · obtain ⟨v, rfl, _⟩ := h; rfl
  · obtain ⟨v, rfl, k, q⟩ := h
    refine ⟨_, pss_cons (ps_if (pt_not (pt_val (pe_call G1 (hr.mono (by decide)) rfl m1 p1 b1 .nil pass0 (pa_cons (pv 0) (pa_cons pe_int (pa_cons (pe_glob (v := .int 6) rfl mCol ⟨_, rfl⟩) pa_nil)))))) (pss_one (ps_ret pe_bl)) pss_nil)
      (pss_one (ps_ret (pe_callB (call_all rfl) rfl T.all boot_all (pa_cons (pe_comp1 (defScope sRow).names ["thing"] ["mark"] [] rfl (pi_tup (pv 0)) rfl rfl rfl (by decide +kernel)
        (fun Z => pg_name (i := 0) (show (["mark"] : List Str).Nodup by decide +kernel) rfl (Or.inl rfl)) (fun Z => pts_nil)
        (fun Z => pe_call G2 hr rfl m2 p2 b2 .nil pass0 (pa_cons (pv 0) (pa_cons (pe_glob (v := .int (-2)) rfl mWa ⟨_, rfl⟩) (pa_cons (pe_glob (v := .int 99) rfl mWo ⟨_, rfl⟩) pa_nil))))) pa_nil)))), ?_⟩
    refine ⟨_, rfl, v, 1, 6, rfl, k.le (by decide), _, rfl, iteB (fun e => ?_) fun e => ?_⟩
    · have : rowOk H v = false := by
        rw [Bool.not_eq_true'] at e
        unfold tupIn at e; unfold rowOk
        cases z : tupOf H v with
        | none => rfl
        | some xs =>
          rw [z] at e
          dsimp only at e ⊢
          rw [Bool.and_eq_false_iff] at e ⊢
          left
          rw [Bool.and_eq_false_iff]
          rcases e with e | e
          · left; rw [decide_eq_false_iff_not] at e ⊢; omega
          · right; rw [decide_eq_false_iff_not] at e ⊢; omega
      have q' := q H (Same.refl H)
      rw [this] at q'; exact q'
    · have e' : tupIn H 1 6 v = true := by simpa using e
      unfold tupIn at e'
      cases z : tupOf H v with
      | none => rw [z] at e'; cases e'
      | some xs =>
        rw [z] at e'
        obtain ⟨a, rfl, ha⟩ := of_tupOf z
        obtain ⟨hz, hk⟩ := k.items ha
        refine ⟨_, rfl, a, rfl, ⟨xs, SqT.of ha⟩, fun Z l hl => ?_⟩
        refine comp_map (fun x => .bl (numIn (-2) 99 x)) ha hl hz (fun x H' Q' hm hs hq => ?_) fun σ H' hs hl' => ?_
        · exact ⟨_, rfl, x, -2, 99, rfl, (hk x hm).ext hs.ext, hq _ (Same.refl _)⟩
        · refine ⟨l, xs.map (numIn (-2) 99), rfl, SqL.of (by rw [hl', List.map_map]; rfl), ?_⟩
          have : rowOk H (.ref a) = (xs.map (numIn (-2) 99)).all id := by
            unfold rowOk; rw [z]
            dsimp only at e' ⊢
            rw [Bool.and_eq_true, decide_eq_true_eq, decide_eq_true_eq] at e'
            rw [decide_eq_true (show 1 ≤ xs.length by omega), decide_eq_true (show xs.length ≤ 6 by omega), List.all_map]
            rfl
          have q' := q H' hs
          rw [this] at q'; exact q'
end
end M42

set_option Elab.async false
set_option linter.all false
set_option maxRecDepth 100000
set_option maxHeartbeats 4000000
namespace M42
open PySem L2 PyProof.Rows
def spPlaces : Sp := fun vs H Q _ => ∃ a rows, vs = [.ref a] ∧ H a = some (.tup rows) ∧ RowsAt H rows ∧ ∀ H' l ps, Same H H' → H' l = some (.lst (ps.map V.ref)) → PlAt H' ps (allCells H rows) → Q (.ref l) H'
section
variable {P : Program} {w : World} {K : PySem.W.Frag} {mg : Str → Option Value} {base : Heap}
theorem scPlaces : FnScope ["mead"] ["mead"] (defScope sPlaces) := ⟨rfl, rfl, rfl, by decide +kernel, rfl, by decide +kernel, by decide +kernel⟩
theorem nd4 : (["at", "row", "k", "mark"] : List Str).Nodup := by decide +kernel
theorem ok_places {f : Addr} {fd : FuncData} (F : Fun K "places_of_cells" "places_of_cells" sPlaces f fd) (T : Txt mg) : FnOk P w K mg base CX0 1 f fd ["mead"] spPlaces := by
  refine F.ok scPlaces (fun vs H Q E h => ?_) (fun cdv A outer s H vs Q E hr h => ?_)
  · obtain ⟨a, rows, rfl, _⟩ := h; rfl
  · obtain ⟨a, rows, rfl, ha, hR, q⟩ := h
    refine ⟨_, pss_one (ps_ret (pe_comp2 (defScope sPlaces).names ["mead"] ["at", "row", "k", "mark"] [] rfl (pi_enumT rfl rfl T.enumerate (pa_cons (pv 0) pa_nil)) rfl rfl rfl (by decide +kernel)
      (fun Z => pg_tup rfl (pgs_cons (pg_name (i := 0) nd4 rfl (Or.inl rfl)) (pgs_cons (pg_name (i := 1) nd4 rfl (Or.inl rfl)) pgs_nil))) (fun Z => pts_nil)
      (fun Z => pi_enumT rfl rfl T.enumerate (pa_cons (pv 1) pa_nil)) (fun Z => pg_tup rfl (pgs_cons (pg_name (i := 2) nd4 rfl (Or.inl rfl)) (pgs_cons (pg_name (i := 3) nd4 rfl (Or.inl rfl)) pgs_nil)))
      (fun Z => pts_one (pt_cmpR op_ge (pv 3) pe_int (nomark _))) (fun Z => pe_tup (pa_cons (pv 0) (pa_cons (pv 2) pa_nil))))), ?_⟩
    refine ⟨_, rfl, a, rows, rfl, SqT.of ha, fun Z l hl => ?_⟩
    exact comp_cells ha hl hR (fun at' k r i H' Q' hq => ⟨_, rfl, _, _, rfl, rfl, _, rfl, hq⟩) fun σ H' ps hs hl' hP => q H' l ps hs hl' hP
theorem scMead : FnScope ["thing"] ["thing"] (defScope sMead) := ⟨rfl, rfl, rfl, by decide +kernel, rfl, by decide +kernel, by decide +kernel⟩
theorem rowOk_num {H : Hp} {v : V} (h : rowOk H v = true) : ∃ b xs, v = .ref b ∧ H b = some (.tup xs) ∧ xs.length ≤ 6 ∧ ∀ x ∈ xs, ∃ i, x = .int i := by
  unfold rowOk at h
  cases e : tupOf H v with
  | none => rw [e] at h; cases h
  | some xs =>
    rw [e] at h
    obtain ⟨b, rfl, hb⟩ := of_tupOf e
    simp only [Bool.and_eq_true, decide_eq_true_eq, List.all_eq_true] at h
    refine ⟨b, xs, rfl, hb, h.1.2, fun x hx => ?_⟩
    have := h.2 x hx
    cases x <;> first | exact ⟨_, rfl⟩ | cases this
theorem ok_mead {f g1 g2 g3 : Addr} {fd gd1 gd2 gd3 : FuncData} (F : Fun K "is_mead" "is_mead" sMead f fd) (T : Txt mg) (b1 : Binds K gd1 ["thing", "least", "most"] []) (m1 : mg "is_tuple_within" = some (.ref g1)) (p1 : PySem.W.keepIn K (.ref g1) = true) (G1 : FnOk P w K mg base CX0 1 g1 gd1 ["thing", "least", "most"] spTuple)
    (b2 : Binds K gd2 ["thing"] []) (m2 : mg "is_row" = some (.ref g2)) (p2 : PySem.W.keepIn K (.ref g2) = true) (G2 : FnOk P w K mg base CX0 3 g2 gd2 ["thing"] spRow)
    (b3 : Binds K gd3 ["mead"] []) (m3 : mg "places_of_cells" = some (.ref g3)) (p3 : PySem.W.keepIn K (.ref g3) = true) (G3 : FnOk P w K mg base CX0 1 g3 gd3 ["mead"] spPlaces) : FnOk P w K mg base CX0 4 f fd ["thing"] spMead := by
  obtain ⟨t1, mRow⟩ := T.rows
  obtain ⟨t2, mCel⟩ := T.cells
  refine F.ok scMead (fun vs H Q E h => ?_) (fun cdv A outer s H vs Q E hr h => ?_)
  · obtain ⟨v, rfl, _⟩ := h; rfl
  · obtain ⟨v, rfl, k, q⟩ := h
    refine ⟨_, pss_cons (ps_if (pt_not (pt_val (pe_call G1 (hr.mono (by decide)) rfl m1 p1 b1 .nil pass0 (pa_cons (pv 0) (pa_cons pe_int (pa_cons (pe_glob (v := .int 4) rfl mRow ⟨_, rfl⟩) pa_nil)))))) (pss_one (ps_ret pe_bl)) pss_nil)
      (pss_cons (ps_if (pt_not (pt_val (pe_callB (call_all rfl) rfl T.all boot_all (pa_cons (pe_comp1 (defScope sMead).names ["thing"] ["row"] [] rfl (pi_tup (pv 0)) rfl rfl rfl (by decide +kernel)
        (fun Z => pg_name (i := 0) (show (["row"] : List Str).Nodup by decide +kernel) rfl (Or.inl rfl)) (fun Z => pts_nil) (fun Z => pe_call G2 hr rfl m2 p2 b2 .nil pass0 (pa_cons (pv 0) pa_nil))) pa_nil)))) (pss_one (ps_ret pe_bl)) pss_nil)
      (pss_cons (ps_if (pt_not (pt_val (pe_callB (call_all rfl) rfl T.all boot_all (pa_cons (pe_comp1 (defScope sMead).names ["thing"] ["row"] [("thing", 0)] rfl (pi_tup (pv 0)) rfl rfl rfl (by decide +kernel)
        (fun Z => pg_name (i := 0) (show (["row", "thing"] : List Str).Nodup by decide +kernel) rfl (Or.inl rfl)) (fun Z => pts_nil)
        (fun Z => pe_cmpR op_eq (pe_callB call_len_seq rfl T.len PySem.boot_len (pa_cons (pv 0) pa_nil)) (pe_callB call_len_seq rfl T.len PySem.boot_len (pa_cons (pe_ix ix_tup (pv 1) pe_int (fun _ _ => rfl)) pa_nil)) (nomark _))) pa_nil)))) (pss_one (ps_ret pe_bl)) pss_nil)
      (pss_one (ps_ret (pe_chain op_le op_le pe_int (pe_callB call_len_seq rfl T.len PySem.boot_len (pa_cons (pe_call G3 (hr.mono (by decide)) rfl m3 p3 b3 .nil pass0 (pa_cons (pv 0) pa_nil)) pa_nil)) (pe_glob (v := .int 10) rfl mCel ⟨_, rfl⟩)))))), ?_⟩
    refine ⟨_, rfl, v, 1, 4, rfl, k.le (by decide), _, rfl, iteB (fun e => ?_) fun e => ?_⟩
    · have : goodM H v = false := by
        rw [Bool.not_eq_true'] at e
        unfold tupIn at e; unfold goodM
        cases z : tupOf H v with
        | none => rfl
        | some xs =>
          rw [z] at e
          dsimp only at e ⊢
          rw [Bool.and_eq_false_iff] at e
          simp only [Bool.and_eq_false_iff]
          left; left; left
          rcases e with e | e
          · left; rw [decide_eq_false_iff_not] at e ⊢; omega
          · right; rw [decide_eq_false_iff_not] at e ⊢; omega
      have q' := q H (Same.refl H)
      rw [this] at q'; exact q'
    · have e' : tupIn H 1 4 v = true := by simpa using e
      unfold tupIn at e'
      cases z : tupOf H v with
      | none => rw [z] at e'; cases e'
      | some rows =>
        rw [z] at e'
        dsimp only at e'
        rw [Bool.and_eq_true, decide_eq_true_eq, decide_eq_true_eq] at e'
        obtain ⟨a, rfl, ha⟩ := of_tupOf z
        obtain ⟨hz, hk⟩ := k.items ha
        have g0 : goodM H (.ref a) = (rows.all (rowOk H) && rows.all (fun r => decide (lenOf H r = lenOf H (rows.headD .non))) && (decide (1 ≤ (rows.map (cellsIn H)).sum) && decide ((rows.map (cellsIn H)).sum ≤ 10))) := by
          unfold goodM; rw [z]
          dsimp only
          rw [decide_eq_true (show 1 ≤ rows.length by omega), decide_eq_true (show rows.length ≤ 4 by omega)]
          rfl
        -- all rows
        refine ⟨_, rfl, a, rfl, ⟨rows, SqT.of ha⟩, fun Z l hl => ?_⟩
        refine comp_map (fun x => .bl (rowOk H x)) ha hl hz (fun x H' Q' hm hs hq => ?_) fun σ H1 hs1 hl1 => ?_
        · refine ⟨_, rfl, x, rfl, (hk x hm).ext hs.ext, fun H2 h2 => ?_⟩
          rw [hs.rowOk ((hk x hm).le (by decide))]
          exact hq _ h2
        · refine ⟨l, rows.map (rowOk H), rfl, SqL.of (by rw [hl1, List.map_map]; rfl), _, rfl, ?_⟩
          have ea : (rows.map (rowOk H)).all id = rows.all (rowOk H) := by rw [List.all_map]; rfl
          rw [ea]
          refine iteB (fun e2 => ?_) fun e2 => ?_
          · have q' := q H1 hs1
            have e3 : rows.all (rowOk H) = false := by simpa using e2
            rw [g0, e3] at q'; exact q'
          · have e3 : rows.all (rowOk H) = true := by simpa using e2
            rw [e3] at g0
            have hr2 : ∀ r ∈ rows, ∃ b xs, r = .ref b ∧ H b = some (.tup xs) ∧ xs.length ≤ 6 ∧ ∀ x ∈ xs, ∃ i, x = .int i := fun r hr' => rowOk_num (List.all_eq_true.mp e3 r hr')
            have hR : RowsAt H rows := ⟨by omega, hr2⟩
            have hne : rows ≠ [] := fun z => by rw [z] at e'; simp at e'
            obtain ⟨r0, rs, er⟩ := List.exists_cons_of_ne_nil hne
            have ha1 := hs1 _ _ ha
            refine ⟨_, rfl, a, rfl, ⟨rows, SqT.of ha1⟩, fun Z2 l2 hl2 => ?_⟩
            refine comp_map (rest := [some (.ref a)]) (fun x => .bl (decide (lenOf H x = lenOf H (rows.headD .non)))) ha1 hl2 hz (fun x H' Q' hm hs hq => ?_) fun σ H2 hs2 hl2' => ?_
            · obtain ⟨b, xs, rfl, hb, _⟩ := hr2 x hm
              obtain ⟨b0, xs0, e0, hb0, _⟩ := hr2 r0 (by rw [er]; exact List.mem_cons_self)
              have hsH := hs1.trans hs
              refine ⟨_, rfl, b, xs, rfl, .inr (SqT.of (hsH _ _ hb)), _, rfl, a, rows, 0, r0, rfl, rfl, SqT.of (hsH _ _ ha), ?_, b0, xs0, by rw [e0], .inr (SqT.of (hsH _ _ hb0)), rfl, ?_⟩
              · rw [er]; exact atI_nat (j := 0) rfl
              · have : decide (V.int (xs.length : Int) = V.int (xs0.length : Int)) = decide (lenOf H (.ref b) = lenOf H (rows.headD .non)) := by
                  rw [er]
                  show _ = decide (lenOf H (.ref b) = lenOf H r0)
                  rw [e0]
                  unfold lenOf
                  rw [tupOf_of hb, tupOf_of hb0]
                  show _ = decide (xs.length = xs0.length)
                  by_cases h : xs.length = xs0.length
                  · rw [decide_eq_true h, h]; simp
                  · rw [decide_eq_false h, decide_eq_false]
                    intro z; apply h
                    have := V.int.inj z
                    omega
                rw [this]
                exact hq _ (Same.refl _)
            · have hs12 := hs1.trans hs2
              refine ⟨l2, rows.map (fun r => decide (lenOf H r = lenOf H (rows.headD .non))), rfl, SqL.of (by rw [hl2', List.map_map]; rfl), _, rfl, ?_⟩
              have ea : (rows.map (fun r => decide (lenOf H r = lenOf H (rows.headD .non)))).all id = rows.all (fun r => decide (lenOf H r = lenOf H (rows.headD .non))) := by rw [List.all_map]; rfl
              rw [ea]
              refine iteB (fun e4 => ?_) fun e4 => ?_
              · have q' := q H2 hs12
                have e5 : rows.all (fun r => decide (lenOf H r = lenOf H (rows.headD .non))) = false := by simpa using e4
                rw [g0, e5] at q'; exact q'
              · have e5 : rows.all (fun r => decide (lenOf H r = lenOf H (rows.headD .non))) = true := by simpa using e4
                rw [e5] at g0
                refine ⟨_, rfl, a, rows, rfl, hs12 _ _ ha, hR.same hs12, fun H3 l3 ps hs3 hl3 hP => ?_⟩
                have hlen : ps.length = (rows.map (cellsIn H)).sum := by
                  rw [← allCells_length]
                  have e6 : allCells H2 rows = allCells H rows := by
                    unfold allCells
                    congr 1
                    refine List.map_congr_left fun p hp => ?_
                    have hm : p.1 ∈ rows := by
                      obtain ⟨i, hi, e⟩ := List.getElem_of_mem hp
                      rw [List.getElem_zipIdx] at e
                      rw [← e]; exact List.getElem_mem _
                    rw [hs12.tupOf ((hk _ hm).le (by decide))]
                  rw [← e6]
                  exact Paired.length hP
                refine ⟨l3, ps.map V.ref, rfl, .inl (SqL.of hl3), _, _, rfl, rfl, _, rfl, ite2d (fun h1 => ?_) fun h1 => ?_⟩
                · refine ⟨_, _, rfl, rfl, ?_⟩
                  have q' := q H3 (hs12.trans hs3)
                  rw [g0, decide_eq_true (show 1 ≤ (rows.map (cellsIn H)).sum by rw [← hlen]; rw [List.length_map] at h1; omega)] at q'
                  have : decide (((ps.map V.ref).length : Int) ≤ 10) = decide ((rows.map (cellsIn H)).sum ≤ 10) := by
                    rw [List.length_map, hlen]
                    by_cases h : (rows.map (cellsIn H)).sum ≤ 10
                    · rw [decide_eq_true h, decide_eq_true]; omega
                    · rw [decide_eq_false h, decide_eq_false]; omega
                  rw [← this] at q'; exact q'
                · have q' := q H3 (hs12.trans hs3)
                  rw [g0, decide_eq_false (show ¬ 1 ≤ (rows.map (cellsIn H)).sum by rw [← hlen]; rw [List.length_map] at h1; omega)] at q'
                  exact q'
end
end M42

set_option Elab.async false
set_option linter.all false
set_option maxRecDepth 100000
set_option maxHeartbeats 4000000
namespace M42
open PySem L2 PyProof.Rows
abbrev sCell : Stmt := top 28
abbrev sPen : Stmt := top 29
abbrev sDraw : Stmt := top 30
/-- of the script: an int at k, or 0 -/
def spCell (K : PySem.W.Frag) : Sp := fun vs H Q _ => ∃ a ns k, vs = [.ref a, .int k] ∧ SqL K H a ((ns : List Int).map V.int) ∧ 0 ≤ k ∧ ∀ i, Q (.int i) H
def spPen : Sp := fun vs H Q _ => ∃ i : Int, vs = [.int i] ∧ ∀ p H', H p = none → Same H H' → PenAt H' p → Q (.ref p) H'
def spDraw : Sp := fun vs H Q _ => ∃ p m, vs = [.ref p, .int m] ∧ PenAt H p ∧ 0 < m ∧ m < 1000000 ∧ ∀ d H', 0 ≤ d → d < m → Stp p H H' → Q (.int d) H'
section
variable {P : Program} {w : World} {K : PySem.W.Frag} {mg : Str → Option Value} {base : Heap}
theorem scCell : FnScope ["_law_script", "_law_k"] ["_law_script", "_law_k"] (defScope sCell) := ⟨rfl, rfl, rfl, by decide +kernel, rfl, by decide +kernel, by decide +kernel⟩
theorem ok_cell {f : Addr} {fd : FuncData} (F : Fun K "_law_cell" "_law_cell" sCell f fd) (T : Txt mg) : FnOk P w K mg base CX0 1 f fd ["_law_script", "_law_k"] (spCell K) := by
  refine F.ok scCell (fun vs H Q E h => ?_) (fun cdv A outer s H vs Q E hr h => ?_)
  · obtain ⟨a, ns, k, rfl, _⟩ := h; rfl
  · obtain ⟨a, ns, k, rfl, ha, hk, q⟩ := h
    refine ⟨_, pss_cons (ps_if (pt_cmpR op_lt (pv 1) (pe_callB call_len_seq rfl T.len PySem.boot_len (pa_cons (pv 0) pa_nil)) (nomark _)) (pss_one (ps_ret (pe_ix ix_list (pv 0) (pv 1) (fun _ _ => rfl)))) pss_nil) (pss_one (ps_ret pe_int)), ?_⟩
    refine ⟨_, rfl, _, rfl, a, _, rfl, .inl ha, _, _, rfl, rfl, _, rfl, ite2d (fun h1 => ?_) fun h1 => q 0⟩
    rw [List.length_map] at h1
    obtain ⟨n, rfl⟩ := Int.eq_ofNat_of_zero_le hk
    have hlt : n < ns.length := by omega
    exact ⟨_, rfl, _, rfl, a, _, n, .int ns[n], rfl, rfl, ha, atI_nat (by rw [List.getElem?_map]; simp [hlt]), q _⟩
theorem scPen : FnScope ["_law_cell_here"] ["_law_cell_here"] (defScope sPen) := ⟨rfl, rfl, rfl, by decide +kernel, rfl, by decide +kernel, by decide +kernel⟩
theorem ok_pen {f : Addr} {fd : FuncData} (F : Fun K "_law_pen" "_law_pen" sPen f fd) (T : Txt mg) : FnOk P w K mg base CX0 1 f fd ["_law_cell_here"] spPen := by
  refine F.ok scPen (fun vs H Q E h => ?_) (fun cdv A outer s H vs Q E hr h => ?_)
  · obtain ⟨i, rfl, _⟩ := h; rfl
  · obtain ⟨i, rfl, q⟩ := h
    refine ⟨_, pss_one (ps_ret (pe_lst (pa_cons (pv 0) (pa_cons (pe_callTy call_int1 rfl T.int boot_int (pa_cons (pe_cmpR op_ge (pv 0) (pe_op op_pow pe_int pe_int) (nomark _)) pa_nil)) pa_nil)))), ?_⟩
    refine ⟨_, rfl, _, rfl, _, _, rfl, rfl, ⟨by decide, by decide, by decide⟩, _, _, rfl, rfl, .inr ⟨_, rfl, ?_⟩⟩
    refine ⟨by show 2 ≤ sizeLine; decide, fun l hl => ?_⟩
    exact q l _ hl (same_upd hl) ⟨_, _, upd_same⟩
theorem scDraw : FnScope ["_law_pen_here", "_law_many", "_law_digit"] ["_law_pen_here", "_law_many"] (defScope sDraw) := ⟨rfl, rfl, rfl, by decide +kernel, rfl, by decide +kernel, by decide +kernel⟩
theorem ok_draw {f : Addr} {fd : FuncData} (F : Fun K "_law_draw" "_law_draw" sDraw f fd) (T : Txt mg) : FnOk P w K mg base CX0 1 f fd ["_law_pen_here", "_law_many"] spDraw := by
  refine F.ok scDraw (fun vs H Q E h => ?_) (fun cdv A outer s H vs Q E hr h => ?_)
  · obtain ⟨p, m, rfl, _⟩ := h; rfl
  · obtain ⟨p, m, rfl, ⟨x, f1, hp⟩, h0, h1, q⟩ := h
    refine ⟨_, pss_cons (ps_if (pt_cmpR op_eq (pe_ix ix_list (pv 0) pe_int (fun _ _ => rfl)) pe_int (nomark _))
        (pss_cons (ps_set (i := 2) scDraw.nd rfl (Or.inl rfl) (pe_op op_mod (pe_ix ix_list (pv 0) pe_int (fun _ _ => rfl)) (pv 1)))
        (pss_cons (ps_asg (pe_op op_fdiv (pe_ix ix_list (pv 0) pe_int (fun _ _ => rfl)) (pv 1)) (pg_sub (pv 0) pe_int set_list))
        (pss_one (ps_ret (pv 2))))) pss_nil)
      (pss_cons (ps_asg (pe_op op_mod (pe_op op_add (pe_op op_mul (pe_op op_mod (pe_ix ix_list (pv 0) pe_int (fun _ _ => rfl)) pe_int) pe_int) pe_int) pe_int) (pg_sub (pv 0) pe_int set_list))
      (pss_one (ps_ret (pe_op op_mod (pe_op op_fdiv (pe_op op_mod (pe_op op_add (pe_op op_mul (pe_ix ix_list (pv 0) pe_int (fun _ _ => rfl)) (pe_ix ix_list (pv 0) pe_int (fun _ _ => rfl))) (pe_op op_mul pe_int (pe_ix ix_list (pv 0) pe_int (fun _ _ => rfl)))) pe_int) pe_int) (pv 1))))), ?_⟩
    refine ⟨_, rfl, p, _, 1, _, rfl, rfl, SqL.of hp, atI_nat (j := 1) rfl, rfl, _, rfl, ite2d (fun _ => ?_) fun _ => ?_⟩
    · refine ⟨_, rfl, p, _, 0, _, rfl, rfl, SqL.of hp, atI_nat (j := 0) rfl, _, rfl, _, _, rfl, rfl, h0, ?_⟩
      refine ⟨_, rfl, p, _, 0, _, rfl, rfl, SqL.of hp, atI_nat (j := 0) rfl, _, rfl, _, _, rfl, rfl, ⟨h0, by omega⟩, ?_⟩
      refine ⟨_, rfl, p, _, 0, 0, rfl, rfl, hp, rfl, ?_⟩
      refine ⟨_, rfl, ?_⟩
      exact q _ _ (Int.emod_nonneg _ (by omega)) (Int.emod_lt_of_pos _ h0) ⟨⟨_, _, upd_same⟩, fun b o hb e => by rw [upd_ne hb]; exact e⟩
    · have hm : ∀ y : Int, 0 ≤ y % 2147483629 ∧ y % 2147483629 < 2147483629 := fun y => ⟨Int.emod_nonneg _ (by omega), Int.emod_lt_of_pos _ (by omega)⟩
      have b1 := hm x
      have b2 := hm (x % 2147483629 * 48271 + 11)
      refine ⟨_, rfl, p, _, 0, _, rfl, rfl, SqL.of hp, atI_nat (j := 0) rfl, _, _, rfl, rfl, (by show (0 : Int) < 2147483629; decide), _, _, rfl, rfl, .inl ⟨by omega, by omega⟩, _, _, rfl, rfl, _, _, rfl, rfl, (by show (0 : Int) < 2147483629; decide), ?_⟩
      refine ⟨_, rfl, p, _, 0, 0, rfl, rfl, hp, rfl, ?_⟩
      refine ⟨_, rfl, p, _, 0, _, rfl, rfl, SqL.of upd_same, atI_nat (j := 0) rfl, _, rfl, p, _, 0, _, rfl, rfl, SqL.of upd_same, atI_nat (j := 0) rfl, _, _, rfl, rfl, .inl ⟨by omega, by omega⟩, ?_⟩
      refine ⟨_, rfl, p, _, 0, _, rfl, rfl, SqL.of upd_same, atI_nat (j := 0) rfl, _, _, rfl, rfl, .inl ⟨by decide, by decide⟩, _, _, rfl, rfl, _, _, rfl, rfl, (by show (0 : Int) < 2147483647; decide), _, _, rfl, rfl, ⟨by decide, by decide⟩, _, rfl, _, _, rfl, rfl, h0, ?_⟩
      exact q _ _ (Int.emod_nonneg _ (by omega)) (Int.emod_lt_of_pos _ h0) ⟨⟨_, _, upd_same⟩, fun b o hb e => by rw [upd_ne hb]; exact e⟩
end
end M42

set_option Elab.async false
set_option linter.all false
set_option maxRecDepth 100000
set_option maxHeartbeats 4000000
namespace L2
open PySem Grd
def forBody (s : Stmt) : List Stmt := match s with | .For _ _ b _ _ => b | _ => []
def RowsG (H : Hp) (bs : List Addr) (g : Grid) : Prop := Paired (fun b xs => H b = some (.tup ((xs : List Int).map V.int))) bs g
/-- at a stands the grid g -/
def GridAt (H : Hp) (a : Addr) (g : Grid) : Prop := ∃ bs : List Addr, H a = some (.tup (bs.map V.ref)) ∧ RowsG H bs g
theorem RowsG.ext {H H' : Hp} {bs : List Addr} {g : Grid} (h : RowsG H bs g) (e : Ext H H') : RowsG H' bs g := Paired.mapP h fun _ _ z => e.tup _ _ z
theorem GridAt.ext {H H' : Hp} {a : Addr} {g : Grid} (h : GridAt H a g) (e : Ext H H') : GridAt H' a g := let ⟨bs, h1, h2⟩ := h; ⟨bs, e.tup _ _ h1, h2.ext e⟩
theorem RowsG.get {H : Hp} : ∀ {bs : List Addr} {g : Grid} {i : Nat} {xs : List Int}, RowsG H bs g → g[i]? = some xs → ∃ b, bs[i]? = some b ∧ H b = some (.tup (xs.map V.int))
  | _, _, 0, _, .cons r _, h => by cases h; exact ⟨_, rfl, r⟩
  | _, _, i + 1, _, .cons _ t, h => RowsG.get (i := i) t (by simpa using h)
theorem RowsG.row {H : Hp} : ∀ {bs : List Addr} {g : Grid} {i : Nat} {b : Addr}, RowsG H bs g → bs[i]? = some b → ∃ xs, g[i]? = some xs ∧ H b = some (.tup (xs.map V.int))
  | _, _, 0, _, .cons r _, h => by cases h; exact ⟨_, rfl, r⟩
  | _, _, i + 1, _, .cons _ t, h => RowsG.row (i := i) t (by simpa using h)
end L2
namespace M42
open PySem L2 PyProof.Rows Grd
abbrev sMeadL : Stmt := top 32
structure Txt2 (mg : Str → Option Value) : Prop where
  range : mg "range" = none
  list : mg "list" = none
  zip : mg "zip" = none
  sum : mg "sum" = none
  max : mg "max" = none
  road : ∃ t, mg "ROAD" = some (.int (-1) t)
def spMeadL : Sp := fun vs H Q _ => ∃ p, vs = [.ref p, .int 10] ∧ PenAt H p ∧ ∀ a g w H', Stp p H H' → GridAt H' a g → Good g w → Q (.ref a) H'
section
variable {P : Program} {w : World} {K : PySem.W.Frag} {mg : Str → Option Value} {base : Heap}
abbrev nMeadL : List Str := ["_law_pen_here", "_law_most", "_law_high", "_law_wide", "_law_odds", "_law_rows", "_law_left", "_law_line", "_law_row", "_law_place", "_law_number"]
theorem scMeadL : FnScope nMeadL ["_law_pen_here", "_law_most"] (defScope sMeadL) := ⟨rfl, rfl, rfl, by decide +kernel, rfl, by decide +kernel, by decide +kernel⟩
/-- the slots while the rows are made -/
abbrev σM (p lr : Addr) (m hi wi od lf : Int) (o7 o8 o9 o10 : Option V) : L2.St := [some (.ref p), some (.int m), some (.int hi), some (.int wi), some (.int od), some (.ref lr), some (.int lf), o7, o8, o9, o10]
def dec (n : Int) : Int := if decide (0 ≤ n) = true then 1 else 0
theorem dec_cnt (n : Int) : ((if pos n then 1 else 0 : Nat) : Int) = dec n := by
  unfold dec pos
  by_cases h : 0 ≤ n <;> simp [h]
theorem cut1 (xs : List Int) (h : 1 ≤ xs.length) : cutV (xs.map V.int) (some 1) none = (xs.drop 1).map V.int := by
  have e1 : HT.sIx (xs.map V.int).length 0 (some 1) = min 1 (xs.map V.int).length := HT.sIx_nat _ _ 1
  have e2 : HT.sIx (xs.map V.int).length (xs.map V.int).length none = (xs.map V.int).length := rfl
  unfold cutV
  rw [e1, e2, List.length_map]
  have e3 : min 1 xs.length = 1 := by omega
  rw [e3, ← List.map_drop, List.take_of_length_le (by rw [List.length_map, List.length_drop]; omega)]
theorem ok_meadL {f g : Addr} {fd gd : FuncData} (F : Fun K "_law_mead" "_law_mead" sMeadL f fd) (T : Txt mg) (T2 : Txt2 mg) (b1 : Binds K gd ["_law_pen_here", "_law_many"] []) (m1 : mg "_law_draw" = some (.ref g)) (p1 : PySem.W.keepIn K (.ref g) = true)
    (D : FnOk P w K mg base CX0 1 g gd ["_law_pen_here", "_law_many"] spDraw) : FnOk P w K mg base CX0 2 f fd ["_law_pen_here", "_law_most"] spMeadL := by
  refine F.ok scMeadL (fun vs H Q E h => ?_) (fun cdv A outer s H vs Q E hr h => ?_)
  · obtain ⟨p, rfl, _⟩ := h; rfl
  · obtain ⟨p, rfl, hp, q⟩ := h
    have nd := scMeadL.nd
    -- left = left - int(number >= 0); row.append(number)
    have t45 : ∃ tt, PSs (cxOf CX0 P w K mg base nMeadL "_law_mead" (defScope sMeadL) f cdv A outer s H E).nox ((forBody ((forBody ((defBody sMeadL).getD 2 (.Pass ⟨0, 0, 0, 0⟩))).getD 1 (.Pass ⟨0, 0, 0, 0⟩))).drop 3) tt ∧
        ∀ (lr rw' : Addr) (hi wi od lf n : Int) (o7 o9 : Option V) (H1 : Hp) (xs : List V) (De : Ends), H1 rw' = some (.lst xs) → xs.length ≤ 10 → De.nx (σM p lr 10 hi wi od (lf - dec n) o7 (some (.ref rw')) o9 (some (.int n))) (upd H1 rw' (.lst (xs ++ [.int n]))) →
          tt De (σM p lr 10 hi wi od lf o7 (some (.ref rw')) o9 (some (.int n))) H1 := by
      refine ⟨_, pss_cons (ps_set (i := 6) nd rfl (Or.inl rfl) (pe_op op_sub (pv 6) (pe_callTy call_int1 rfl T.int boot_int (pa_m (pe_cmpR op_ge (pv 10) pe_int (nomark _)) pa_nil)))) <|
        pss_one (ps_expr (pe_bm PySem.F.plainAttrs_list PySem.F.slot_list_append PySem.F.type_list_append mt_append (pv 8) (pa_v (pv 10) pa_nil))), ?_⟩
      intro lr rw' hi wi od lf n o7 o9 H1 xs De hrw hz k
      refine ⟨_, rfl, _, rfl, _, _, rfl, rfl, .inr ⟨_, rfl, _, _, rfl, rfl, ?_⟩⟩
      exact ⟨_, rfl, .inl ⟨rfl, _, SqL.of hrw⟩, _, rfl, rw', xs, _, rfl, rfl, hrw, small1000 (by omega), k⟩
    obtain ⟨tt45, h45, r45⟩ := t45
    have t345 : ∃ tt, PSs (cxOf CX0 P w K mg base nMeadL "_law_mead" (defScope sMeadL) f cdv A outer s H E).nox ((forBody ((forBody ((defBody sMeadL).getD 2 (.Pass ⟨0, 0, 0, 0⟩))).getD 1 (.Pass ⟨0, 0, 0, 0⟩))).drop 2) tt ∧
        ∀ (lr rw' : Addr) (hi wi od lf n : Int) (o7 o9 : Option V) (H1 : Hp) (xs : List V) (De : Ends), H1 rw' = some (.lst xs) → xs.length ≤ 10 → (∀ n', (n' = n ∨ n' = -1) → (0 ≤ n' → lf ≠ 0) → De.nx (σM p lr 10 hi wi od (lf - dec n') o7 (some (.ref rw')) o9 (some (.int n'))) (upd H1 rw' (.lst (xs ++ [.int n'])))) →
          tt De (σM p lr 10 hi wi od lf o7 (some (.ref rw')) o9 (some (.int n))) H1 := by
      refine ⟨_, pss_cons (ps_if (PW.pt (pw_and (pt_cmpR op_ge (pv 10) pe_int (nomark _)) (pw_and1 (pt_cmpR op_eq (pv 6) pe_int (nomark _))))) (pss_one (ps_set (i := 10) nd rfl (Or.inl rfl) (pe_un un_neg pe_int))) pss_nil) h45, ?_⟩
      intro lr rw' hi wi od lf n o7 o9 H1 xs De hrw hz k
      refine ⟨_, rfl, _, _, rfl, rfl, _, rfl, ite2d (fun n0 => ?_) fun n0 => ?_⟩
      · refine ⟨_, rfl, rfl, _, rfl, ite2d (fun l0 => ?_) fun l0 => ?_⟩
        · exact ⟨_, rfl, r45 lr rw' hi wi od lf _ o7 o9 H1 xs De hrw hz (k (-1) (.inr rfl) fun z => absurd z (by decide))⟩
        · exact r45 lr rw' hi wi od lf n o7 o9 H1 xs De hrw hz (k n (.inl rfl) fun _ z => l0 (by rw [z]))
      · refine iteF ?_
        exact r45 lr rw' hi wi od lf n o7 o9 H1 xs De hrw hz (k n (.inl rfl) fun z => absurd z n0)
    obtain ⟨tt3, h3, r3⟩ := t345
    have tin : ∃ tt, PSs (cxOf CX0 P w K mg base nMeadL "_law_mead" (defScope sMeadL) f cdv A outer s H E).nox (forBody ((forBody ((defBody sMeadL).getD 2 (.Pass ⟨0, 0, 0, 0⟩))).getD 1 (.Pass ⟨0, 0, 0, 0⟩))) tt ∧
        ∀ (lr rw' : Addr) (hi wi od lf : Int) (o7 o9 o10 : Option V) (H1 : Hp) (xs : List V) (De : Ends), PenAt H1 p → H1 rw' = some (.lst xs) → rw' ≠ p → xs.length ≤ 10 →
          (∀ n' H2, Stp p H1 H2 → -2 ≤ n' → n' ≤ 99 → (0 ≤ n' → lf ≠ 0) → De.nx (σM p lr 10 hi wi od (lf - dec n') o7 (some (.ref rw')) o9 (some (.int n'))) (upd H2 rw' (.lst (xs ++ [.int n'])))) →
          tt De (σM p lr 10 hi wi od lf o7 (some (.ref rw')) o9 o10) H1 := by
      refine ⟨_, pss_cons (ps_set (i := 10) nd rfl (Or.inl rfl) (pe_ix ix_list (pe_lst (pa_k (pe_call D hr rfl m1 p1 b1 .nil pass0 (pa_v (pv 0) (pa_c pe_int pa_nil))) (pa_k (pe_call D hr rfl m1 p1 b1 .nil pass0 (pa_v (pv 0) (pa_c pe_int pa_nil))) (pa_u (pe_un un_neg pe_int) (pa_u (pe_un un_neg pe_int) (pa_c pe_int pa_nil))))))
          (pe_call D hr rfl m1 p1 b1 .nil pass0 (pa_v (pv 0) (pa_c pe_int pa_nil))) (fun _ _ => rfl))) <|
        pss_cons (ps_if (PW.pt (pw_and (pt_cmpR op_gt (pv 4) pe_int (nomark _)) (pw_and1 (pt_cmpR op_eq (pe_call D hr rfl m1 p1 b1 .nil pass0 (pa_v (pv 0) (pa_c pe_int pa_nil))) pe_int (nomark _))))) (pss_one (ps_set (i := 10) nd rfl (Or.inl rfl) (pe_call D hr rfl m1 p1 b1 .nil pass0 (pa_v (pv 0) (pa_c pe_int pa_nil))))) pss_nil) h3, ?_⟩
      intro lr rw' hi wi od lf o7 o9 o10 H1 xs De hp1 hrw hrp hz k
      refine ⟨_, rfl, p, 4, rfl, hp1, by decide, by decide, fun d1 H2 a1 a2 st2 => ?_⟩
      refine ⟨_, rfl, p, 100, rfl, st2.pen, by decide, by decide, fun d2 H3 c1 c2 st3 => ?_⟩
      refine ⟨_, rfl, _, rfl, ?_⟩
      refine ⟨by show 5 ≤ sizeLine; decide, fun l hl => ?_⟩
      have stl : Stp p H1 (upd H3 l (.lst [.int d1, .int d2, .int (-1), .int (-2), .int 1])) := (st2.trans st3).same (same_upd hl)
      refine ⟨_, rfl, p, 5, rfl, stl.pen, by decide, by decide, fun i H4 i0 i1 st4 => ?_⟩
      have hlp : l ≠ p := fun z => by
        obtain ⟨x, f', e⟩ := st3.pen
        rw [z, e] at hl; cases hl
      obtain ⟨n, hn, nlo, nhi⟩ : ∃ n, atI [V.int d1, .int d2, .int (-1), .int (-2), .int 1] i = some (.int n) ∧ -2 ≤ n ∧ n ≤ 99 := by
        obtain ⟨j, rfl⟩ := Int.eq_ofNat_of_zero_le i0
        have hj : j < 5 := by omega
        match j, hj with
        | 0, _ => exact ⟨_, atI_nat rfl, by omega, by omega⟩
        | 1, _ => exact ⟨_, atI_nat rfl, by omega, by omega⟩
        | 2, _ => exact ⟨_, atI_nat rfl, by omega, by omega⟩
        | 3, _ => exact ⟨_, atI_nat rfl, by omega, by omega⟩
        | 4, _ => exact ⟨_, atI_nat rfl, by omega, by omega⟩
      have st5 := stl.trans st4
      refine ⟨l, _, i, _, rfl, rfl, SqL.of (st4.keep l _ hlp upd_same), hn, ?_⟩
      refine ⟨_, rfl, _, _, rfl, rfl, _, rfl, ite2d (fun _ => ?_) fun _ => ?_⟩
      · refine ⟨_, rfl, p, 2, rfl, st5.pen, by decide, by decide, fun z H5 z0 z1 st6 => ?_⟩
        refine ⟨rfl, _, rfl, ite2d (fun _ => ?_) fun _ => ?_⟩
        · refine ⟨_, rfl, p, 9, rfl, st6.pen, by decide, by decide, fun n2 H6 y0 y1 st7 => ?_⟩
          have st8 := (st5.trans st6).trans st7
          exact r3 lr rw' hi wi od lf n2 o7 o9 H6 xs De (st8.keep _ _ hrp hrw) hz fun n' e hl => k n' H6 st8 (by omega) (by omega) hl
        · have st8 := st5.trans st6
          exact r3 lr rw' hi wi od lf n o7 o9 H5 xs De (st8.keep _ _ hrp hrw) hz fun n' e hl => k n' H5 st8 (by omega) (by omega) hl
      · refine iteF ?_
        exact r3 lr rw' hi wi od lf n o7 o9 H4 xs De (st5.keep _ _ hrp hrw) hz fun n' e hl => k n' H4 st5 (by omega) (by omega) hl
    obtain ⟨tti, hin, rin⟩ := tin
    refine ⟨_, pss_cons (ps_par3 (i := 2) (j := 3) (k := 4) rfl nd rfl rfl rfl (by decide) (by decide) (by decide) rfl rfl rfl (pa_b (pe_op op_add pe_int (pe_call D hr rfl m1 p1 b1 .nil pass0 (pa_v (pv 0) (pa_c pe_int pa_nil)))) (pa_b (pe_op op_add pe_int (pe_call D hr rfl m1 p1 b1 .nil pass0 (pa_v (pv 0) (pa_c pe_int pa_nil)))) (pa_k (pe_call D hr rfl m1 p1 b1 .nil pass0 (pa_v (pv 0) (pa_c pe_int pa_nil))) pa_nil))) rfl) <|
      pss_cons (ps_par (i := 5) (j := 6) rfl nd rfl rfl (by decide) rfl rfl (pa_l (pe_lst pa_nil) (pa_v (pv 1) pa_nil)) rfl) <|
      pss_cons (ps_for PassesOwn.never rfl (pi_range1 rfl T2.range (pa_v (pv 2) pa_nil)) (pg_name (i := 7) nd rfl (Or.inl rfl))
        (pss_cons (ps_set (i := 8) nd rfl (Or.inl rfl) (pe_lst pa_nil)) <|
         pss_cons (ps_for PassesOwn.never rfl (pi_range1 rfl T2.range (pa_v (pv 3) pa_nil)) (pg_name (i := 9) nd rfl (Or.inl rfl)) hin) <|
         pss_one (ps_expr (pe_bm PySem.F.plainAttrs_list PySem.F.slot_list_append PySem.F.type_list_append mt_append (pv 5) (pa_k (pe_callTy call_tuple_of rfl T.tuple boot_tuple (pa_v (pv 8) pa_nil)) pa_nil))))) <|
      pss_cons (ps_if (pt_cmpR op_eq (pv 6) (pv 1) (nomark _)) (pss_one (ps_asg (pe_op op_catU (pe_tup (pa_c pe_int pa_nil)) (pe_slice sl_tupU (pe_ix ix_list (pv 5) pe_int (fun _ _ => rfl)) (po_some pe_int) po_none)) (pg_sub (pv 5) pe_int set_list))) pss_nil) <|
      pss_one (ps_ret (pe_callTy call_tuple_of rfl T.tuple boot_tuple (pa_v (pv 5) pa_nil))), ?_⟩
    refine ⟨_, rfl, p, 4, rfl, hp, by decide, by decide, fun d1 H1 a1 a2 st1 => ?_⟩
    refine ⟨_, _, rfl, rfl, _, rfl, p, 5, rfl, st1.pen, by decide, by decide, fun d2 H2 c1 c2 st2 => ?_⟩
    refine ⟨_, _, rfl, rfl, _, rfl, p, 3, rfl, st2.pen, by decide, by decide, fun od H3 e1 e2 st3 => ?_⟩
    refine ⟨_, _, _, rfl, ?_⟩
    refine ⟨by show 0 ≤ sizeLine; decide, fun lr hlr => ?_⟩
    refine ⟨_, rfl, _, _, rfl, ?_⟩
    have st4 : Stp p H (upd H3 lr (.lst [])) := ((st1.trans st2).trans st3).same (same_upd hlr)
    have hHlr : H lr = none := by
      cases e : H lr with
      | none => rfl
      | some o =>
        by_cases z : lr = p
        · obtain ⟨x, f', e'⟩ := st3.pen
          rw [z, e'] at hlr; cases hlr
        · rw [((st1.trans st2).trans st3).keep lr o z e] at hlr; cases hlr
    have hlrp : lr ≠ p := fun z => by
      obtain ⟨x, f', e'⟩ := hp
      rw [z, e'] at hHlr; cases hHlr
    refine ⟨_, rfl, 1 + d1, rfl, by omega, by omega, ?_⟩
    refine for_range (lo := 0) (n := (1 + d1).toNat) (fun i σ H' => ∃ (lf : Int) (bs : List Addr) (g : Grid), (∃ o7 o8 o9 o10, σ = σM p lr 10 (1 + d1) (1 + d2) od lf o7 o8 o9 o10) ∧ Stp p H H' ∧ H' lr = some (.lst (bs.map V.ref)) ∧ RowsG H' bs g ∧ g.length = i ∧ 0 ≤ lf ∧ lf + cntG g = 10 ∧ (∀ xs ∈ g, xs.length = (1 + d2).toNat) ∧ ∀ xs ∈ g, ∀ n ∈ xs, -2 ≤ n ∧ n ≤ 99)
      ⟨10, [], [], ⟨_, _, _, _, rfl⟩, st4, upd_same, .nil, rfl, by decide, rfl, (fun r hr' => by cases hr'), (fun r hr' => by cases hr')⟩ ?_ ?_
    · rintro i σ H' hi ⟨lf, bs, g, ⟨o7, o8, o9, o10, rfl⟩, st', hlr', hG, hn, lf0, lfc, hlen, hnum⟩
      have hbs : bs.length = g.length := Paired.length hG
      refine ⟨by show 0 ≤ sizeLine; decide, fun rw' hrw => ?_⟩
      have hrp : rw' ≠ p := fun z => by
        obtain ⟨x, f', e'⟩ := st'.pen
        rw [z, e'] at hrw; cases hrw
      have hrl : rw' ≠ lr := fun z => by rw [z, hlr'] at hrw; cases hrw
      refine ⟨_, rfl, 1 + d2, rfl, by omega, by omega, ?_⟩
      refine for_range (lo := 0) (n := (1 + d2).toNat) (fun j σ H2 => ∃ (lf2 : Int) (xs : List Int), (∃ o9 o10, σ = σM p lr 10 (1 + d1) (1 + d2) od lf2 (some (.int (0 + i))) (some (.ref rw')) o9 o10) ∧ Stp p H' H2 ∧ H2 rw' = some (.lst (xs.map V.int)) ∧ xs.length = j ∧ 0 ≤ lf2 ∧ lf2 + cntR xs = lf ∧ ∀ n ∈ xs, -2 ≤ n ∧ n ≤ 99)
        ⟨lf, [], ⟨_, _, rfl⟩, (Stp.refl st'.pen).updL hrw st'.pen, upd_same, rfl, lf0, by simp [cntR], fun x hx => by cases hx⟩ ?_ ?_
      · rintro j σ H2 hj ⟨lf2, xs, ⟨o92, o102, rfl⟩, stj, hxs, hnj, l0, lc, hxi⟩
        refine rin lr rw' _ _ _ lf2 _ _ _ H2 (xs.map V.int) _ stj.pen hxs hrp (by rw [List.length_map]; omega) fun n' H3 st3' n1 n2 nl => ?_
        refine ⟨lf2 - dec n', xs ++ [n'], ⟨_, _, rfl⟩, (stj.trans st3').updL hrw st'.pen, by rw [upd_same, List.map_append]; rfl, by rw [List.length_append, hnj]; rfl, ?_, ?_, fun x hx => ?_⟩
        · unfold dec
          by_cases h0 : 0 ≤ n'
          · have := nl h0
            rw [decide_eq_true h0, if_pos rfl]; omega
          · rw [decide_eq_false h0, if_neg (by decide)]; omega
        · rw [cntR_succ, Int.natCast_add, dec_cnt]; omega
        · rcases List.mem_append.mp hx with z | z
          · exact hxi x z
          · rw [List.mem_singleton.mp z]; exact ⟨n1, n2⟩
      · rintro σ H2 ⟨lf2, xs, ⟨o92, o102, rfl⟩, stj, hxs, hnj, l0, lc, hxi⟩
        have hlr2 := stj.keep lr _ hlrp hlr'
        refine ⟨_, rfl, .inl ⟨rfl, _, SqL.of hlr2⟩, _, rfl, rw', xs.map V.int, rfl, .inl ⟨SqL.of hxs, fun t ht => ?_⟩⟩
        have s3 := same_upd (o := .tup (xs.map V.int)) ht
        have hlr3 := s3 _ _ hlr2
        refine ⟨lr, bs.map V.ref, _, rfl, rfl, hlr3, small1000 (by rw [List.length_map]; omega), ?_⟩
        have exA : Ext H' (upd (upd H2 t (.tup (xs.map V.int))) lr (.lst (bs.map V.ref ++ [.ref t]))) := ((stj.ext st'.pen).trans s3.ext).trans (Ext.updL hlr3)
        have htl : t ≠ lr := fun z => by rw [z, hlr2] at ht; cases ht
        refine ⟨lf2, bs ++ [t], g ++ [xs], ⟨_, _, _, _, rfl⟩, ((st'.trans stj).same s3).updL hHlr hp, by rw [upd_same, List.map_append]; rfl, Paired.snoc (hG.ext exA) (by rw [upd_ne htl, upd_same]), by rw [List.length_append, hn]; rfl, l0, ?_, fun ys hy => ?_, fun ys hy => ?_⟩
        · rw [cntG_succ]; omega
        · rcases List.mem_append.mp hy with z | z
          · exact hlen ys z
          · rw [List.mem_singleton.mp z]; exact hnj
        · rcases List.mem_append.mp hy with z | z
          · exact hnum ys z
          · rw [List.mem_singleton.mp z]; exact hxi
    · rintro σ H' ⟨lf, bs, g, ⟨o7, o8, o9, o10, rfl⟩, st', hlr', hG, hn, lf0, lfc, hlen, hnum⟩
      have hbs : bs.length = g.length := Paired.length hG
      have h1 : 1 ≤ g.length := by omega
      have h4 : g.length ≤ 4 := by omega
      refine ⟨_, rfl, _, rfl, rfl, _, rfl, ite2d (fun e10 => ?_) fun e10 => ?_⟩
      · have e10' : lf = 10 := V.int.inj e10
        obtain ⟨b0, bs', rfl⟩ : ∃ b0 bs', bs = b0 :: bs' := List.exists_cons_of_ne_nil (fun z => by rw [z] at hbs; simp at hbs; omega)
        obtain ⟨xs0, g', rfl⟩ : ∃ xs0 g', g = xs0 :: g' := List.exists_cons_of_ne_nil (fun z => by rw [z] at h1; simp at h1)
        have hb0 : H' b0 = some (.tup (xs0.map V.int)) := by cases hG with | cons a b => exact a
        have hG' : RowsG H' bs' g' := by cases hG with | cons a b => exact b
        have hw0 := hlen xs0 List.mem_cons_self
        refine ⟨by show 1 ≤ sizeLine; decide, fun t3 ht3 => ?_⟩
        have s3 := same_upd (o := .tup [.int 3]) ht3
        refine ⟨_, rfl, lr, _, 0, .ref b0, rfl, rfl, SqL.of (s3 _ _ hlr'), atI_nat (j := 0) rfl, _, rfl, b0, xs0.map V.int, rfl, s3 _ _ hb0, fun c H4 s4 hc => ?_⟩
        rw [cut1 xs0 (by omega)] at hc
        refine ⟨t3, c, [.int 3], _, rfl, rfl, s4 _ _ upd_same, hc, ?_, fun c2 H5 s5 hc2 => ?_⟩
        · rw [List.length_map, List.length_drop, sizeLine_eq]; show 1 + _ ≤ _; omega
        have hlr5 := s5 _ _ (s4 _ _ (s3 _ _ hlr'))
        refine ⟨_, rfl, lr, _, 0, 0, rfl, rfl, hlr5, (by unfold ixN; rw [if_pos (by decide), if_pos (by simp)]; rfl), ?_⟩
        have exA : Ext H' (upd H5 lr (.lst (((b0 :: bs').map V.ref).set 0 (.ref c2)))) := ((s3.ext.trans s4.ext).trans s5.ext).trans (Ext.updL hlr5)
        refine ⟨_, rfl, lr, _, rfl, .inl ⟨SqL.of upd_same, fun tt htt => ?_⟩⟩
        have s6 := same_upd (o := .tup (((b0 :: bs').map V.ref).set 0 (.ref c2))) htt
        have hc2l : c2 ≠ lr := fun z => by rw [z, hlr5] at hc2; cases hc2
        have z0 : cntG (xs0 :: g') = 0 := by omega
        have z1 : cntR xs0 = 0 ∧ cntG g' = 0 := by
          unfold cntG at z0 ⊢
          rw [List.map_cons, List.sum_cons] at z0
          omega
        have zd : cntR (xs0.drop 1) = 0 := by
          have : (xs0.filter pos) = [] := List.length_eq_zero_iff.mp z1.1
          unfold cntR
          rw [List.length_eq_zero_iff, List.filter_eq_nil_iff]
          intro a ha
          exact List.filter_eq_nil_iff.mp this a (List.mem_of_mem_drop ha)
        have zc : cntG ((3 :: xs0.drop 1) :: g') = 1 := by
          have e1 : cntR (3 :: xs0.drop 1) = cntR (xs0.drop 1) + 1 := by unfold cntR; rw [List.filter_cons_of_pos (by decide), List.length_cons]
          unfold cntG
          rw [List.map_cons, List.sum_cons, e1, zd]
          have := z1.2
          unfold cntG at this
          omega
        refine q tt ((3 :: xs0.drop 1) :: g') (1 + d2).toNat _ ((((st'.same s3).same s4).same s5).updL hHlr hp |>.same s6) ⟨c2 :: bs', upd_same, .cons ?_ (hG'.ext (exA.trans s6.ext))⟩ ⟨by simp, by simpa using h4, by omega, by omega, fun ys hy => ?_, fun ys hy => ?_, by omega, by omega⟩
        · exact s6 _ _ (by rw [upd_ne hc2l]; exact hc2)
        · rcases List.mem_cons.mp hy with z | z
          · rw [z, List.length_cons, List.length_drop]; omega
          · exact hlen ys (List.mem_cons_of_mem _ z)
        · rcases List.mem_cons.mp hy with z | z
          · rw [z]
            intro n hn'
            rcases List.mem_cons.mp hn' with z' | z'
            · omega
            · exact hnum xs0 List.mem_cons_self n (List.mem_of_mem_drop z')
          · exact hnum ys (List.mem_cons_of_mem _ z)
      · refine ⟨_, rfl, lr, _, rfl, .inl ⟨SqL.of hlr', fun tt htt => ?_⟩⟩
        have s6 := same_upd (o := .tup (bs.map V.ref)) htt
        have e10' : lf ≠ 10 := fun z => e10 (by rw [z])
        exact q tt g (1 + d2).toNat _ (st'.same s6) ⟨bs, upd_same, hG.ext s6.ext⟩ ⟨h1, h4, by omega, by omega, hlen, hnum, by omega, by omega⟩
end
end M42

set_option Elab.async false
set_option linter.all false
set_option maxRecDepth 100000
set_option maxHeartbeats 4000000
namespace L2
open PySem PySem.Spec PyProof.Rows Grd
theorem GridAt.same {H H' : Hp} {a : Addr} {g : Grid} (h : GridAt H a g) (s : Same H H') : GridAt H' a g := h.ext s.ext
/-- [(at, k) for at, row in enumerate(mead) for k, mark in enumerate(row) if TEST] over a grid -/
theorem comp_grid {K : PySem.W.Frag} {a l : Addr} {g : Grid} {bs : List Addr} {f : Int → Bool} {H0 : Hp} {tt2 : TT} {Q : St → Hp → Prop} (ha : H0 a = some (.tup (bs.map V.ref))) (hG : RowsG H0 bs g) (hl : H0 l = none) (h4 : g.length ≤ 4) (h6 : ∀ xs ∈ g, xs.length ≤ 6)
    (htt : ∀ (at' k : Nat) (r : V) (i : Int) H' (Q' : Bool → Hp → Prop), Q' (f i) H' → tt2 [some (.int at'), some r, some (.int k), some (.int i)] H' Q')
    (hQ : ∀ σ H' ps, Same H0 H' → H' l = some (.lst (ps.map V.ref)) → PlAt H' ps (gridF f g) → Q σ H') :
    tForJ (Ite fun H xs => SqT K H a xs) (gTup K 2 (gCons (gName 0) (gCons (gName 1) gNil))) (tBodyC tAll (tNest (iEnumT K (tCons (tVar 1) tNil)) (gTup K 2 (gCons (gName 2) (gCons (gName 3) gNil))) tt2 (tEmit l (tTup (tCons (tVar 0) (tCons (tVar 2) tNil)))))) (eC Q) [none, none, none, none] (upd H0 l (.lst [])) := by
  have s0 : Same H0 (upd H0 l (.lst [])) := same_upd hl
  have hbs : bs.length = g.length := Paired.length hG
  refine for_enum (xs := bs.map V.ref) (fun i σ H' => σ.length = 4 ∧ Same H0 H' ∧ ∃ ps, H' l = some (.lst (ps.map V.ref)) ∧ PlAt H' ps (gridF f (g.take i)) ∧ ps.length ≤ 6 * i) ⟨rfl, s0, [], by rw [upd_same]; rfl, .nil, Nat.zero_le _⟩ (fun i σ H' _ h => SqT.of (h.2.1 _ _ ha)) ?_ ?_
  · rintro i r p σ H' hx ⟨hσ, hs, ps, hl', hP, hn⟩ hp
    obtain ⟨b, hbi, rfl⟩ : ∃ b, bs[i]? = some b ∧ V.ref b = r := by
      rw [List.getElem?_map] at hx
      cases e : bs[i]? with
      | none => rw [e] at hx; cases hx
      | some b => rw [e] at hx; exact ⟨b, rfl, Option.some.inj hx⟩
    obtain ⟨xs, hgi, hb⟩ := hG.row hbi
    have hx6 := h6 xs (List.mem_of_getElem? hgi)
    have hi4 : i < 4 := Nat.lt_of_lt_of_le (List.getElem?_eq_some_iff.mp hgi).1 h4
    have s1 : Same H' (upd H' p (.tup [.int i, .ref b])) := same_upd hp
    match σ, hσ with
    | [x0, x1, x2, x3], _ =>
    refine ⟨p, _, rfl, SqT.of upd_same, rfl, _, _, rfl, _, _, rfl, rfl, ?_⟩
    refine body_all ?_
    refine ⟨_, rfl, b, xs.map V.int, rfl, SqT.of (s1 _ _ (hs _ _ hb)), ?_⟩
    refine for_enum (xs := xs.map V.int) (fun j σ H2 => (∃ y2 y3, σ = [some (.int i), some (.ref b), y2, y3]) ∧ Same H0 H2 ∧ ∃ ps, H2 l = some (.lst (ps.map V.ref)) ∧ PlAt H2 ps (gridF f (g.take i) ++ rowF f i (xs.take j)) ∧ ps.length ≤ 6 * i + j) ?_ (fun j σ H2 _ h => SqT.of (h.2.1 _ _ hb)) ?_ ?_
    · exact ⟨⟨x2, x3, rfl⟩, hs.trans s1, ps, s1 _ _ hl', by simpa [rowF] using hP.same s1, hn⟩
    · rintro j x p2 σ H2 hxj ⟨⟨y2, y3, rfl⟩, hs2, ps2, hl2, hP2, hn2⟩ hp2
      obtain ⟨z, hzj, rfl⟩ : ∃ z, xs[j]? = some z ∧ V.int z = x := by
        rw [List.getElem?_map] at hxj
        cases e : xs[j]? with
        | none => rw [e] at hxj; cases hxj
        | some z => rw [e] at hxj; exact ⟨z, rfl, Option.some.inj hxj⟩
      have hj6 : j < 6 := Nat.lt_of_lt_of_le (List.getElem?_eq_some_iff.mp hzj).1 hx6
      have s2 : Same H2 (upd H2 p2 (.tup [.int j, .int z])) := same_upd hp2
      refine ⟨p2, _, rfl, SqT.of upd_same, rfl, _, _, rfl, _, _, rfl, rfl, ?_⟩
      refine htt i j (.ref b) z _ _ (iteB (fun e => ?_) fun e => ?_)
      · refine ⟨_, rfl, _, rfl, (by show 2 ≤ sizeLine; decide), fun q hq => ?_⟩
        have s3 := same_upd (o := .tup [.int i, .int j]) hq
        have hlq : l ≠ q := ne_of_none (s2 _ _ hl2) hq
        refine ⟨_, s3 _ _ (s2 _ _ hl2), small1000 (by rw [List.length_map]; omega), ⟨_, _, rfl⟩, fun b' u e' => ?_, ps2 ++ [q], ?_, ?_, ?_⟩
        · rw [upd_ne (ne_of_none e' hl)]; exact s3 _ _ (s2 _ _ (hs2 _ _ e'))
        · rw [upd_same, List.map_append]; rfl
        · have hne : ∀ b' u, (upd (upd H2 p2 (.tup [.int j, .int z])) q (.tup [.int i, .int j])) b' = some (.tup u) → (upd (upd (upd H2 p2 (.tup [.int j, .int z])) q (.tup [.int i, .int j])) l (.lst (ps2.map V.ref ++ [.ref q]))) b' = some (.tup u) := fun b' u e' => by
            rw [upd_ne (fun z' => ?_)]; exact e'
            rw [z', upd_ne hlq, s2 _ _ hl2] at e'; cases e'
          rw [Grd.rowF_succ f i xs j _ hzj, if_pos e, ← List.append_assoc]
          exact PlAt.snoc (Paired.mapP ((hP2.same s2).same s3) fun _ _ e' => hne _ _ e') (hne _ _ upd_same)
        · rw [List.length_append]; show ps2.length + 1 ≤ _; omega
      · refine ⟨⟨_, _, rfl⟩, hs2.trans s2, ps2, s2 _ _ hl2, ?_, by omega⟩
        rw [Grd.rowF_succ f i xs j _ hzj, if_neg (by rw [e]; decide), List.append_nil]
        exact hP2.same s2
    · rintro σ H2 ⟨⟨y2, y3, rfl⟩, hs2, ps2, hl2, hP2, hn2⟩
      rw [List.length_map] at hP2 hn2
      refine ⟨rfl, hs2, ps2, hl2, ?_, by omega⟩
      rw [List.take_of_length_le (Nat.le_refl _)] at hP2
      rw [Grd.gridF_succ f g i _ hgi]
      exact hP2
  · rintro σ H' ⟨_, hs, ps, hl', hP, _⟩
    rw [List.length_map, hbs, List.take_of_length_le (Nat.le_refl _)] at hP
    exact hQ σ H' ps hs hl' hP
/-! a grid is a good mead -/
theorem filt_int : ∀ xs : List Int, ((xs.map V.int).filter nonneg).length = cntR xs
  | [] => rfl
  | x :: xs => by
    have ih := filt_int xs
    unfold cntR at ih ⊢
    rw [List.map_cons]
    cases h : pos x with
    | true => rw [List.filter_cons_of_pos (show nonneg (.int x) = true from h), List.filter_cons_of_pos h, List.length_cons, List.length_cons, ih]
    | false => rw [List.filter_cons_of_neg (by show ¬ nonneg (.int x) = true; rw [show nonneg (.int x) = false from h]; decide), List.filter_cons_of_neg (by rw [h]; decide), ih]
theorem cells_sum {H : Hp} : ∀ {bs : List Addr} {g : Grid}, RowsG H bs g → ((bs.map V.ref).map (cellsIn H)).sum = cntG g
  | _, _, .nil => rfl
  | b :: bs, xs :: g, .cons h t => by
    have ih := cells_sum t
    unfold cntG at ih ⊢
    rw [List.map_cons, List.map_cons, List.sum_cons, List.map_cons, List.sum_cons, ih]
    congr 1
    unfold cellsIn
    rw [tupOf_of h]
    exact filt_int xs
theorem GridAt.good {H : Hp} {a : Addr} {g : Grid} {w : Nat} (hA : GridAt H a g) (G : Good g w) : goodM H (.ref a) = true := by
  obtain ⟨bs, ha, hG⟩ := hA
  have hl : bs.length = g.length := Paired.length hG
  have row : ∀ r ∈ bs.map V.ref, ∃ b xs, r = .ref b ∧ H b = some (.tup (xs.map V.int)) ∧ xs ∈ g := fun r hr => by
    obtain ⟨b, hb, rfl⟩ := List.mem_map.mp hr
    obtain ⟨i, hi, e⟩ := List.getElem_of_mem hb
    obtain ⟨xs, h1, h2⟩ := hG.row (i := i) (b := b) (by rw [List.getElem?_eq_getElem hi, e])
    exact ⟨b, xs, rfl, h2, List.mem_of_getElem? h1⟩
  have len : ∀ r ∈ bs.map V.ref, lenOf H r = w := fun r hr => by
    obtain ⟨b, xs, rfl, h1, h2⟩ := row r hr
    unfold lenOf
    rw [tupOf_of h1]
    show (xs.map V.int).length = w
    rw [List.length_map]; exact G.len xs h2
  unfold goodM
  rw [tupOf_of ha]
  dsimp only
  have c := cells_sum hG
  have h1 := G.h1
  have h4 := G.h4
  rw [List.length_map, hl, decide_eq_true G.h1, decide_eq_true G.h4, c, decide_eq_true G.c1, decide_eq_true G.c10]
  have e1 : (bs.map V.ref).all (rowOk H) = true := List.all_eq_true.mpr fun r hr => by
    obtain ⟨b, xs, rfl, h1, h2⟩ := row r hr
    have w1 := G.w1
    have w5 := G.w5
    have lx := G.len xs h2
    unfold rowOk
    rw [tupOf_of h1]
    dsimp only
    rw [List.length_map, decide_eq_true (show 1 ≤ xs.length by omega), decide_eq_true (show xs.length ≤ 6 by omega)]
    show (true && _) = true
    rw [Bool.true_and, List.all_eq_true]
    intro x hx
    obtain ⟨n, hn, rfl⟩ := List.mem_map.mp hx
    obtain ⟨n1, n2⟩ := G.num xs h2 n hn
    show (decide (-2 ≤ n) && decide (n ≤ 99)) = true
    rw [decide_eq_true n1, decide_eq_true n2]; rfl
  have e2 : (bs.map V.ref).all (fun r => decide (lenOf H r = lenOf H ((bs.map V.ref).headD .non))) = true := List.all_eq_true.mpr fun r hr => by
    match bs, hl, len, hr with
    | b :: bs', _, len, hr => exact decide_eq_true ((len r hr).trans (len _ List.mem_cons_self).symm)
    | [], _, _, hr => cases hr
  rw [e1, e2]
  rfl
theorem GridAt.kn {H : Hp} {a : Addr} {g : Grid} {w : Nat} (hA : GridAt H a g) (G : Good g w) : KnA H (.ref a) := by
  obtain ⟨bs, ha, hG⟩ := hA
  have hl : bs.length = g.length := Paired.length hG
  have h4 := G.h4
  refine KnA.tup ha (by rw [List.length_map]; omega) fun r hr => ?_
  obtain ⟨b, hb, rfl⟩ := List.mem_map.mp hr
  obtain ⟨i, hi, e⟩ := List.getElem_of_mem hb
  obtain ⟨xs, h1, h2⟩ := hG.row (i := i) (b := b) (by rw [List.getElem?_eq_getElem hi, e])
  have lx := G.len xs (List.mem_of_getElem? h1)
  have w5 := G.w5
  refine KnA.tup h2 (by rw [List.length_map]; omega) fun x hx => ?_
  obtain ⟨n, _, rfl⟩ := List.mem_map.mp hx
  exact KnA.int n
/-- the number at (r, c) -/
theorem GridAt.ix {H : Hp} {a : Addr} {g : Grid} (hA : GridAt H a g) {i j : Nat} {xs : List Int} {x : Int} (h1 : g[i]? = some xs) (h2 : xs[j]? = some x) : ∃ (bs : List Addr) (b : Addr), H a = some (.tup (bs.map V.ref)) ∧ atI (bs.map V.ref) i = some (.ref b) ∧ H b = some (.tup (xs.map V.int)) ∧ atI (xs.map V.int) j = some (.int x) := by
  obtain ⟨bs, ha, hG⟩ := hA
  obtain ⟨b, hb, hr⟩ := hG.get h1
  exact ⟨bs, b, ha, atI_nat (by rw [List.getElem?_map, hb]; rfl), hr, atI_nat (by rw [List.getElem?_map, h2]; rfl)⟩
end L2
namespace M42
open PySem L2 PyProof.Rows Grd
abbrev sPair : Stmt := top 9
abbrev sCheck : Stmt := top 19
abbrev sCellsOf : Stmt := top 21
abbrev sRoadsOf : Stmt := top 22
abbrev sIsCell : Stmt := top 23
abbrev sWorth : Stmt := top 24
abbrev sWhole : Stmt := top 26
abbrev sWTog : Stmt := top 25
def spGrid (f : Int → Bool) : Sp := fun vs H Q _ => ∃ a g w, vs = [.ref a] ∧ GridAt H a g ∧ Good g w ∧ ∀ H' l ps, H l = none → Same H H' → H' l = some (.lst (ps.map V.ref)) → PlAt H' ps (gridF f g) → Q (.ref l) H'
def spCheck : Sp := fun vs H Q _ => ∃ a g w, vs = [.ref a] ∧ GridAt H a g ∧ Good g w ∧ ∀ H', Same H H' → Q .non H'
/-- the place that a thing is -/
def placeOf (H : Hp) (v : V) : Option (Int × Int) := match tupOf H v with
  | some [.int r, .int c] => some (r, c)
  | _ => none
def isCell (H : Hp) (g : Grid) (v : V) : Bool := match placeOf H v with
  | some c => decide (c ∈ gridF pos g)
  | none => false
def spIsCell : Sp := fun vs H Q _ => ∃ a g w v, vs = [.ref a, v] ∧ GridAt H a g ∧ Good g w ∧ Kn H 2 v ∧ ∀ H', Same H H' → Q (.bl (isCell H g v)) H'
def spWorth (C : Addr) : Sp := fun vs H Q E => ∃ a g w v, vs = [.ref a, v] ∧ GridAt H a g ∧ Good g w ∧ Kn H 2 v ∧ (∀ c H', placeOf H v = some c → c ∈ gridF pos g → Same H H' → Q (.int (atG g c)) H') ∧ (isCell H g v = false → ∀ H', Same H H' → E (.ref C) none H')
def spWhole : Sp := fun vs H Q _ => ∃ a g w, vs = [.ref a] ∧ GridAt H a g ∧ Good g w ∧ ∀ H', Same H H' → Q (.int (totG g)) H'
/-- a def of the text at hand: its name, its promise -/
structure At (P : Program) (w : World) (K : PySem.W.Frag) (mg : Str → Option Value) (base : Heap) (CX : CXT) (k : Nat) (x : Str) (f : Addr) (fd : FuncData) (ps : List Str) (sp : Sp) : Prop where
  nm : mg x = some (.ref f)
  kp : PySem.W.keepIn K (.ref f) = true
  bd : L2.Binds K fd ps []
  ok : FnOk P w K mg base CX k f fd ps sp
section
variable {P : Program} {w : World} {K : PySem.W.Frag} {mg : Str → Option Value} {base : Heap}
theorem ok_placesG {f : Addr} {fd : FuncData} (F : Fun K "places_of_cells" "places_of_cells" sPlaces f fd) (T : Txt mg) : FnOk P w K mg base CX0 1 f fd ["mead"] (spGrid pos) := by
  refine F.ok scPlaces (fun vs H Q E h => ?_) (fun cdv A outer s H vs Q E hr h => ?_)
  · obtain ⟨a, g, w', rfl, _⟩ := h; rfl
  · obtain ⟨a, g, w', rfl, ⟨bs, ha, hG⟩, G, q⟩ := h
    refine ⟨_, pss_one (ps_ret (pe_comp2 (defScope sPlaces).names ["mead"] ["at", "row", "k", "mark"] [] rfl (pi_enumT rfl rfl T.enumerate (pa_cons (pv 0) pa_nil)) rfl rfl rfl (by decide +kernel)
      (fun Z => pg_tup rfl (pgs_cons (pg_name (i := 0) nd4 rfl (Or.inl rfl)) (pgs_cons (pg_name (i := 1) nd4 rfl (Or.inl rfl)) pgs_nil))) (fun Z => pts_nil)
      (fun Z => pi_enumT rfl rfl T.enumerate (pa_cons (pv 1) pa_nil)) (fun Z => pg_tup rfl (pgs_cons (pg_name (i := 2) nd4 rfl (Or.inl rfl)) (pgs_cons (pg_name (i := 3) nd4 rfl (Or.inl rfl)) pgs_nil)))
      (fun Z => pts_one (pt_cmpR op_ge (pv 3) pe_int (nomark _))) (fun Z => pe_tup (pa_cons (pv 0) (pa_cons (pv 2) pa_nil))))), ?_⟩
    refine ⟨_, rfl, a, _, rfl, SqT.of ha, fun Z l hl => ?_⟩
    exact comp_grid (f := pos) ha hG hl G.h4 (fun xs hx => by have := G.len xs hx; have := G.w5; omega) (fun at' k r i H' Q' hq => ⟨_, rfl, _, _, rfl, rfl, _, rfl, hq⟩) fun σ H' ps hs hl' hP => q H' l ps hl hs hl' hP
theorem scCheck : FnScope ["mead"] ["mead"] (defScope sCheck) := ⟨rfl, rfl, rfl, by decide +kernel, rfl, by decide +kernel, by decide +kernel⟩
theorem ok_check {f gI : Addr} {fd dI : FuncData} (F : Fun K "check_mead" "check_mead" sCheck f fd) (aI : At P w K mg base CX0 4 "is_mead" gI dI ["thing"] spMead) : FnOk P w K mg base CX0 5 f fd ["mead"] spCheck := by
  refine F.ok scCheck (fun vs H Q E h => ?_) (fun cdv A outer s H vs Q E hr h => ?_)
  · obtain ⟨a, g, w', rfl, _⟩ := h; rfl
  · obtain ⟨a, g, w', rfl, hA, G, q⟩ := h
    refine ⟨_, pss_one (ps_if (pt_not (pt_val (pe_call aI.ok hr rfl aI.nm aI.kp aI.bd .nil pass0 (pa_v (pv 0) pa_nil)))) pss_never pss_nil), ?_⟩
    refine ⟨_, rfl, _, rfl, hA.kn G 3, fun H' hs => ⟨_, rfl, ?_⟩⟩
    rw [hA.good G]
    exact iteF (q H' hs)
theorem scCellsOf : FnScope ["mead"] ["mead"] (defScope sCellsOf) := ⟨rfl, rfl, rfl, by decide +kernel, rfl, by decide +kernel, by decide +kernel⟩
theorem ok_cellsOf {f gC gP : Addr} {fd dC dP : FuncData} (F : Fun K "cells_of" "cells_of" sCellsOf f fd) (aC : At P w K mg base CX0 5 "check_mead" gC dC ["mead"] spCheck) (aP : At P w K mg base CX0 1 "places_of_cells" gP dP ["mead"] (spGrid pos)) : FnOk P w K mg base CX0 6 f fd ["mead"] (spGrid pos) := by
  refine F.ok scCellsOf (fun vs H Q E h => ?_) (fun cdv A outer s H vs Q E hr h => ?_)
  · obtain ⟨a, g, w', rfl, _⟩ := h; rfl
  · obtain ⟨a, g, w', rfl, hA, G, q⟩ := h
    refine ⟨_, pss_cons (ps_expr (pe_call aC.ok hr rfl aC.nm aC.kp aC.bd .nil pass0 (pa_v (pv 0) pa_nil))) <| pss_one (ps_ret (pe_call aP.ok (hr.mono (by decide)) rfl aP.nm aP.kp aP.bd .nil pass0 (pa_v (pv 0) pa_nil))), ?_⟩
    refine ⟨_, rfl, a, g, w', rfl, hA, G, fun H1 s1 => ?_⟩
    exact ⟨_, rfl, a, g, w', rfl, hA.same s1, G, fun H2 l ps hl s2 hl' hP => q H2 l ps (s1.free hl) (s1.trans s2) hl' hP⟩
theorem scRoadsOf : FnScope ["mead"] ["mead"] (defScope sRoadsOf) := ⟨rfl, rfl, rfl, by decide +kernel, rfl, by decide +kernel, by decide +kernel⟩
theorem ok_roadsOf {f gC : Addr} {fd dC : FuncData} (F : Fun K "roads_of" "roads_of" sRoadsOf f fd) (T : Txt mg) (T2 : Txt2 mg) (aC : At P w K mg base CX0 5 "check_mead" gC dC ["mead"] spCheck) : FnOk P w K mg base CX0 6 f fd ["mead"] (spGrid road) := by
  obtain ⟨tR, mR⟩ := T2.road
  refine F.ok scRoadsOf (fun vs H Q E h => ?_) (fun cdv A outer s H vs Q E hr h => ?_)
  · obtain ⟨a, g, w', rfl, _⟩ := h; rfl
  · obtain ⟨a, g, w', rfl, hA, G, q⟩ := h
    refine ⟨_, pss_cons (ps_expr (pe_call aC.ok hr rfl aC.nm aC.kp aC.bd .nil pass0 (pa_v (pv 0) pa_nil))) <| pss_one (ps_ret (pe_comp2 (defScope sRoadsOf).names ["mead"] ["at", "row", "k", "mark"] [] rfl (pi_enumT rfl rfl T.enumerate (pa_cons (pv 0) pa_nil)) rfl rfl rfl (by decide +kernel)
      (fun Z => pg_tup rfl (pgs_cons (pg_name (i := 0) nd4 rfl (Or.inl rfl)) (pgs_cons (pg_name (i := 1) nd4 rfl (Or.inl rfl)) pgs_nil))) (fun Z => pts_nil)
      (fun Z => pi_enumT rfl rfl T.enumerate (pa_cons (pv 1) pa_nil)) (fun Z => pg_tup rfl (pgs_cons (pg_name (i := 2) nd4 rfl (Or.inl rfl)) (pgs_cons (pg_name (i := 3) nd4 rfl (Or.inl rfl)) pgs_nil)))
      (fun Z => pts_one (pt_cmpR op_eq (pv 3) (pe_glob (v := .int (-1)) rfl mR ⟨_, rfl⟩) (nomark _))) (fun Z => pe_tup (pa_cons (pv 0) (pa_cons (pv 2) pa_nil))))), ?_⟩
    refine ⟨_, rfl, a, g, w', rfl, hA, G, fun H1 s1 => ?_⟩
    obtain ⟨bs, ha, hG⟩ := hA.same s1
    refine ⟨_, rfl, a, _, rfl, SqT.of ha, fun Z l hl => ?_⟩
    refine comp_grid (f := road) ha hG hl G.h4 (fun xs hx => by have := G.len xs hx; have := G.w5; omega) (fun at' k r i H' Q' hq => ⟨_, rfl, rfl, _, rfl, ?_⟩) fun σ H' ps hs hl' hP => q H' l ps (s1.free hl) (s1.trans hs) hl' hP
    have e : decide (V.int i = V.int (-1)) = road i := by
      unfold road
      rw [Bool.eq_iff_iff]; simp
    rw [e]; exact hq
theorem scPair : FnScope ["thing"] ["thing"] (defScope sPair) := ⟨rfl, rfl, rfl, by decide +kernel, rfl, by decide +kernel, by decide +kernel⟩
def spPair : Sp := fun vs H Q _ => ∃ v, vs = [v] ∧ Kn H 2 v ∧ ∀ H', Same H H' → Q (.bl (placeOf H v).isSome) H'
theorem ok_pair {f gT gN : Addr} {fd dT dN : FuncData} (F : Fun K "is_pair_of_numbers" "is_pair_of_numbers" sPair f fd) (T : Txt mg) (aT : At P w K mg base CX0 1 "is_tuple_within" gT dT ["thing", "least", "most"] spTuple) (aN : At P w K mg base CX0 1 "is_number" gN dN ["thing"] spNumber) :
    FnOk P w K mg base CX0 2 f fd ["thing"] spPair := by
  refine F.ok scPair (fun vs H Q E h => ?_) (fun cdv A outer s H vs Q E hr h => ?_)
  · obtain ⟨v, rfl, _⟩ := h; rfl
  · obtain ⟨v, rfl, k, q⟩ := h
    refine ⟨_, pss_one (ps_ret (pe_and (pe_call aT.ok hr rfl aT.nm aT.kp aT.bd .nil pass0 (pa_v (pv 0) (pa_c pe_int (pa_c pe_int pa_nil)))) (pe_one (pe_callB (call_all rfl) rfl T.all boot_all (pa_lc (pe_comp1 (defScope sPair).names ["thing"] ["number"] [] rfl (pi_tup (pv 0)) rfl rfl rfl (by decide +kernel)
        (fun Z => pg_name (i := 0) (show (["number"] : List Str).Nodup by decide +kernel) rfl (Or.inl rfl)) (fun Z => pts_nil) (fun Z => pe_call aN.ok hr rfl aN.nm aN.kp aN.bd .nil pass0 (pa_v (pv 0) pa_nil))) pa_nil))))), ?_⟩
    refine ⟨_, rfl, v, 2, 2, rfl, k.le (by decide), _, rfl, iteB (fun e' => ?_) fun e' => ?_⟩
    · unfold tupIn at e'
      cases z : tupOf H v with
      | none => rw [z] at e'; cases e'
      | some xs =>
        rw [z] at e'
        obtain ⟨p, rfl, hp⟩ := of_tupOf z
        obtain ⟨hz, hk⟩ := k.items hp
        have hlen : xs.length = 2 := by
          simp only [Bool.and_eq_true, decide_eq_true_eq] at e'
          omega
        refine ⟨_, rfl, p, rfl, ⟨xs, SqT.of hp⟩, fun Z l hl => ?_⟩
        refine comp_map (fun x => .bl (isInt x)) hp hl hz (fun x H' Q' hm hs hq => ?_) fun σ H1 s1 hl1 => ?_
        · exact ⟨_, rfl, x, rfl, (hk x hm).ext hs.ext, hq _ (Same.refl _)⟩
        · refine ⟨l, xs.map isInt, rfl, SqL.of (by rw [hl1, List.map_map]; rfl), ?_⟩
          have : (placeOf H (.ref p)).isSome = (xs.map L2.isInt).all id := by
            unfold placeOf
            rw [z]
            match xs, hlen with
            | [x, y], _ => cases x <;> cases y <;> rfl
          have q' := q H1 s1
          rw [this] at q'; exact q'
    · have : (placeOf H v).isSome = false := by
        unfold tupIn at e'; unfold placeOf
        cases z : tupOf H v with
        | none => rfl
        | some xs =>
          rw [z] at e'
          match xs, e' with
          | [x, y], e' => simp at e'
          | [], _ => rfl
          | [x], _ => cases x <;> rfl
          | x :: y :: u :: t, _ => cases x <;> cases y <;> rfl
      have q' := q H (Same.refl H)
      rw [this] at q'; exact q'
theorem scIsCell : FnScope ["mead", "thing"] ["mead", "thing"] (defScope sIsCell) := ⟨rfl, rfl, rfl, by decide +kernel, rfl, by decide +kernel, by decide +kernel⟩
theorem ok_isCell {f gT gP : Addr} {fd dT dP : FuncData} (F : Fun K "is_cell" "is_cell" sIsCell f fd) (aT : At P w K mg base CX0 2 "is_pair_of_numbers" gT dT ["thing"] spPair)
    (aP : At P w K mg base CX0 1 "places_of_cells" gP dP ["mead"] (spGrid pos)) : FnOk P w K mg base CX0 3 f fd ["mead", "thing"] spIsCell := by
  refine F.ok scIsCell (fun vs H Q E h => ?_) (fun cdv A outer s H vs Q E hr h => ?_)
  · obtain ⟨a, g, w', v, rfl, _⟩ := h; rfl
  · obtain ⟨a, g, w', v, rfl, hA, G, k, q⟩ := h
    refine ⟨_, pss_one (ps_ret (pe_and (pe_call aT.ok hr rfl aT.nm aT.kp aT.bd .nil pass0 (pa_v (pv 1) pa_nil)) (pe_one (pe_cmpR (op_inP (hu_of hr)) (pv 1) (pe_call aP.ok (hr.mono (by decide)) rfl aP.nm aP.kp aP.bd .nil pass0 (pa_v (pv 0) pa_nil)) rfl)))), ?_⟩
    refine ⟨_, rfl, v, rfl, k, fun H1 s1 => ⟨_, rfl, iteB (fun e => ?_) fun e => ?_⟩⟩
    · obtain ⟨⟨r, c⟩, z⟩ := Option.isSome_iff_exists.mp e
      have zt : tupOf H v = some [.int r, .int c] := by
        unfold placeOf at z
        split at z
        · rename_i r2 c2 hz
          injection z with z; injection z with z1 z2
          subst z1 z2; exact hz
        · cases z
      obtain ⟨p, rfl, hp⟩ := of_tupOf zt
      refine ⟨_, rfl, _, rfl, a, g, w', rfl, hA.same s1, G, fun H2 l2 ps hl2 s2 hl2' hP => ?_⟩
      refine ⟨p, l2, ps, gridF pos g, (r, c), rfl, rfl, s2 _ _ (s1 _ _ hp), hl2', hP, ?_⟩
      have : isCell H g (.ref p) = decide ((r, c) ∈ gridF pos g) := by unfold isCell; rw [z]
      have q' := q H2 (s1.trans s2)
      rw [this] at q'; exact q'
    · have : isCell H g v = false := by
        unfold isCell
        cases z : placeOf H v with
        | none => rfl
        | some c => rw [z] at e; cases e
      have q' := q H1 s1
      rw [this] at q'; exact q'
abbrev nWorth : List Str := ["mead", "place", "row", "column"]
theorem scWorth : FnScope nWorth ["mead", "place"] (defScope sWorth) := ⟨rfl, rfl, rfl, by decide +kernel, rfl, by decide +kernel, by decide +kernel⟩
theorem ok_worth {f gC gI C : Addr} {fd dC dI : FuncData} (F : Fun K "worth_at" "worth_at" sWorth f fd) (aC : At P w K mg base CX0 5 "check_mead" gC dC ["mead"] spCheck) (aI : At P w K mg base CX0 3 "is_cell" gI dI ["mead", "thing"] spIsCell)
    (mC : mg "NoPlace" = some (.ref C)) (c : ExcC K C) : FnOk P w K mg base (CX1 P w) 6 f fd ["mead", "place"] (spWorth C) := by
  refine F.okX scWorth (fun vs H Q E h => ?_) (fun cdv A outer s H vs Q E hr h => ?_)
  · obtain ⟨a, g, w', v, rfl, _⟩ := h; rfl
  · obtain ⟨a, g, w', v, rfl, hA, G, k, q1, q2⟩ := h
    have nd := scWorth.nd
    refine ⟨_, pss_cons (ps_expr (pe_call aC.ok hr rfl aC.nm aC.kp aC.bd .nil pass0 (pa_v (pv 0) pa_nil))) <|
      pss_cons (ps_if (pt_not (pt_val (pe_call aI.ok (hr.mono (by decide)) rfl aI.nm aI.kp aI.bd .nil pass0 (pa_v (pv 0) (pa_v (pv 1) pa_nil))))) (pss_one (ps_raise (E := E) rfl rfl rfl rfl rfl rfl mC c)) pss_nil) <|
      pss_cons (ps_asg (pv 1) (pg_tup rfl (pgs_cons (pg_name (i := 2) nd rfl (Or.inl rfl)) (pgs_cons (pg_name (i := 3) nd rfl (Or.inl rfl)) pgs_nil)))) <|
      pss_one (ps_ret (pe_ix ix_tup (pe_ix ix_tup (pv 0) (pv 2) (fun _ _ => rfl)) (pv 3) (fun _ _ => rfl))), ?_⟩
    refine ⟨_, rfl, a, g, w', rfl, hA, G, fun H1 s1 => ?_⟩
    have e1 : isCell H1 g v = isCell H g v := by unfold isCell placeOf; rw [s1.tupOf (k.le (by decide))]
    refine ⟨_, rfl, _, rfl, a, g, w', v, rfl, hA.same s1, G, k.ext s1.ext, fun H2 s2 => ⟨_, rfl, ?_⟩⟩
    rw [e1]
    refine iteB (fun e => ?_) fun e => ?_
    · exact q2 (by simpa using e) H2 (s1.trans s2)
    · have e' : isCell H g v = true := by simpa using e
      unfold isCell at e'
      cases z : placeOf H v with
      | none => rw [z] at e'; cases e'
      | some cc =>
        rw [z] at e'
        have hm : cc ∈ gridF pos g := by simpa using e'
        obtain ⟨r, c'⟩ := cc
        have zt : tupOf H v = some [.int r, .int c'] := by
          unfold placeOf at z
          split at z
          · rename_i r2 c2 hz
            injection z with z; injection z with z1 z2
            subst z1 z2; exact hz
          · cases z
        obtain ⟨p, rfl, hp⟩ := of_tupOf zt
        have hs := s1.trans s2
        obtain ⟨i, j, xs, x, ec, hg, hx, hf⟩ := mem_gridF.mp hm
        injection ec with ec1 ec2
        subst ec1 ec2
        obtain ⟨bs, b, h1, h2, h3, h4⟩ := (hA.same hs).ix hg hx
        refine ⟨_, rfl, p, _, rfl, SqT.of (hs _ _ hp), rfl, _, _, rfl, _, _, rfl, rfl, ?_⟩
        refine ⟨_, rfl, _, rfl, a, _, _, _, rfl, rfl, SqT.of h1, h2, _, rfl, b, _, _, _, rfl, rfl, SqT.of h3, h4, ?_⟩
        have q' := q1 _ H2 z hm hs
        rw [atG_of hg hx] at q'
        exact q'
def spWTog : Sp := fun vs H Q _ => ∃ a l g w ps, vs = [.ref a, .ref l] ∧ GridAt H a g ∧ Good g w ∧ H l = some (.lst ((ps : List Addr).map V.ref)) ∧ PlAt H ps (gridF pos g) ∧ ∀ H', Same H H' → Q (.int (totG g)) H'
theorem scWTog : FnScope ["mead", "places"] ["mead", "places"] (defScope sWTog) := ⟨rfl, rfl, rfl, by decide +kernel, rfl, by decide +kernel, by decide +kernel⟩
theorem ndRC : (["row", "column", "mead"] : List Str).Nodup := by decide +kernel
theorem ok_wtog {f : Addr} {fd : FuncData} (F : Fun K "worth_together" "worth_together" sWTog f fd) (T2 : Txt2 mg) : FnOk P w K mg base CX0 1 f fd ["mead", "places"] spWTog := by
  refine F.ok scWTog (fun vs H Q E h => ?_) (fun cdv A outer s H2 vs Q E hr h => ?_)
  · obtain ⟨a, l, g, w', ps, rfl, _⟩ := h; rfl
  · obtain ⟨a, l, g, w', ps, rfl, hA, G, hl', hP, q⟩ := h
    refine ⟨_, pss_one (ps_ret (pe_callB (call_sumI rfl) rfl T2.sum boot_sum (pa_lc (pe_comp1 (defScope sWTog).names ["mead", "places"] ["row", "column"] [("mead", 0)] rfl (pi_list (pv 1)) rfl rfl rfl (by decide +kernel)
        (fun Z => pg_tup rfl (pgs_cons (pg_name (i := 0) ndRC rfl (Or.inl rfl)) (pgs_cons (pg_name (i := 1) ndRC rfl (Or.inl rfl)) pgs_nil))) (fun Z => pts_nil) (fun Z => pe_ix ix_tup (pe_ix ix_tup (pv 2) (pv 0) (fun _ _ => rfl)) (pv 1) (fun _ _ => rfl))) pa_nil))), ?_⟩
    have s12 : Same H2 H2 := Same.refl H2
    refine ⟨_, rfl, ?_⟩
    have hpl : ps.length = (gridF pos g).length := Paired.length hP
    have h20 : ps.length ≤ 10 := by rw [hpl, len_cells]; exact G.c10
    refine ⟨l, rfl, ⟨_, SqL.of hl'⟩, fun Z l3 hl3 => ?_⟩
    refine for_list (K := K) (a := l) (xs := ps.map V.ref) (fun i σ H' => (∃ o1 o2, σ = [o1, o2, some (.ref a)]) ∧ Same H2 H' ∧ H' l3 = some (.lst ((((gridF pos g).take i).map (atG g)).map V.int))) ⟨⟨_, _, rfl⟩, same_upd hl3, by rw [upd_same]; rfl⟩ (fun i σ H' _ h => SqL.of (h.2.1 _ _ hl')) ?_ ?_
    · rintro i x σ H' hi ⟨⟨o1, o2, rfl⟩, hs, hl3'⟩
      obtain ⟨p, hpi, rfl⟩ : ∃ p, ps[i]? = some p ∧ V.ref p = x := by
        rw [List.getElem?_map] at hi
        cases e : ps[i]? with
        | none => rw [e] at hi; cases hi
        | some p => rw [e] at hi; exact ⟨p, rfl, Option.some.inj hi⟩
      have hil : i < ps.length := (List.getElem?_eq_some_iff.mp hpi).1
      obtain ⟨cc, hci, hpc⟩ : ∃ cc, (gridF pos g)[i]? = some cc ∧ H2 p = some (.tup [.int cc.1, .int cc.2]) := by
        have go : ∀ {ps : List Addr} {cs : List (Int × Int)} {i : Nat} {p : Addr}, PlAt H2 ps cs → ps[i]? = some p → ∃ cc, cs[i]? = some cc ∧ H2 p = some (.tup [.int cc.1, .int cc.2]) := by
          intro ps cs i p h
          induction h generalizing i with
          | nil => intro z; simp at z
          | cons r t ih =>
            intro z
            cases i with
            | zero => cases z; exact ⟨_, rfl, r⟩
            | succ i => exact ih (by simpa using z)
        exact go hP hpi
      obtain ⟨i', j', xs, n, rfl, hg, hx, hf⟩ := mem_gridF.mp (List.mem_of_getElem? hci)
      obtain ⟨bs, b, h1, h2, h3, h4⟩ := (hA.same (s12.trans hs)).ix hg hx
      refine ⟨p, _, rfl, SqT.of (hs _ _ hpc), rfl, _, _, rfl, _, _, rfl, rfl, ?_⟩
      refine body_all ?_
      refine ⟨_, rfl, _, rfl, a, _, _, _, rfl, rfl, SqT.of h1, h2, _, rfl, b, _, _, _, rfl, rfl, SqT.of h3, h4, ?_⟩
      refine ⟨_, hl3', small1000 (by rw [List.length_map, List.length_map, List.length_take]; omega), ⟨_, _, rfl⟩, fun b' u e' => ?_, ?_⟩
      · rw [upd_ne (ne_of_none e' hl3)]; exact hs _ _ e'
      · rw [upd_same, List.take_succ, hci, List.map_append, List.map_append]
        show some (HO.lst (_ ++ [V.int n])) = some (HO.lst (_ ++ [V.int (atG g ((i' : Int), (j' : Int)))]))
        rw [atG_of hg hx]
    · rintro σ H' ⟨_, hs, hl3'⟩
      rw [List.length_map, hpl, List.take_of_length_le (Nat.le_refl _)] at hl3'
      refine ⟨l3, _, rfl, SqL.of hl3', by rw [List.length_map, ← hpl]; omega, fun n hn => ?_, ?_⟩
      · rw [vals_cells] at hn
        obtain ⟨ys, hy, hny⟩ := List.mem_flatten.mp hn
        obtain ⟨xs, hxg, rfl⟩ := List.mem_map.mp hy
        have := G.num xs hxg n (List.mem_filter.mp hny).1
        omega
      · rw [sum_cells]
        exact q H' (s12.trans hs)
theorem scWhole : FnScope ["mead"] ["mead"] (defScope sWhole) := ⟨rfl, rfl, rfl, by decide +kernel, rfl, by decide +kernel, by decide +kernel⟩
theorem ok_whole {f gC gT : Addr} {fd dC dT : FuncData} (F : Fun K "whole_worth" "whole_worth" sWhole f fd) (aC : At P w K mg base CX0 6 "cells_of" gC dC ["mead"] (spGrid pos)) (aT : At P w K mg base CX0 1 "worth_together" gT dT ["mead", "places"] spWTog) : FnOk P w K mg base CX0 7 f fd ["mead"] spWhole := by
  refine F.ok scWhole (fun vs H Q E h => ?_) (fun cdv A outer s H vs Q E hr h => ?_)
  · obtain ⟨a, g, w', rfl, _⟩ := h; rfl
  · obtain ⟨a, g, w', rfl, hA, G, q⟩ := h
    refine ⟨_, pss_one (ps_ret (pe_call aT.ok (hr.mono (by decide)) rfl aT.nm aT.kp aT.bd .nil pass0 (pa_v (pv 0) (pa_k (pe_call aC.ok hr rfl aC.nm aC.kp aC.bd .nil pass0 (pa_v (pv 0) pa_nil)) pa_nil)))), ?_⟩
    refine ⟨_, rfl, _, rfl, a, g, w', rfl, hA, G, fun H2 l ps hl s2 hl' hP => ?_⟩
    exact ⟨a, l, g, w', ps, rfl, hA.same s2, G, hl', hP, fun H3 s3 => q H3 (s2.trans s3)⟩
end
end M42

set_option Elab.async false
set_option linter.all false
set_option maxRecDepth 100000
set_option maxHeartbeats 4000000
namespace M42
open PySem L2 PyProof.Rows Grd
abbrev sSame : Stmt := top 31
abbrev sLCells : Stmt := top 33
abbrev sTold : Stmt := top 34
/-- the same number or text; or lists, or tuples, of the same, so many deep -/
def flatEq (a b : V) : Prop := a = b ∧ ((∃ i, a = .int i) ∨ ∃ x, a = .str x)
def SameV (H : Hp) : Nat → V → V → Prop
  | 0, a, b => flatEq a b
  | n + 1, a, b => flatEq a b ∨ ∃ p q xs ys, a = .ref p ∧ b = .ref q ∧ ((H p = some (.lst xs) ∧ H q = some (.lst ys)) ∨ (H p = some (.tup xs) ∧ H q = some (.tup ys))) ∧ xs.length ≤ 1000 ∧ Paired (SameV H n) xs ys
theorem SameV.same {H H' : Hp} (s : Same H H') : ∀ {n : Nat} {a b : V}, SameV H n a b → SameV H' n a b
  | 0, _, _, h => h
  | n + 1, a, b, h => by
    rcases h with h | ⟨p, q, xs, ys, h1, h2, h3, h4, h5⟩
    · exact .inl h
    · refine .inr ⟨p, q, xs, ys, h1, h2, ?_, h4, Paired.mapP h5 fun _ _ z => SameV.same s z⟩
      rcases h3 with ⟨u, v⟩ | ⟨u, v⟩
      · exact .inl ⟨s _ _ u, s _ _ v⟩
      · exact .inr ⟨s _ _ u, s _ _ v⟩
theorem SameV.int {H : Hp} (n : Nat) (i : Int) : SameV H n (.int i) (.int i) := by cases n with | zero => exact ⟨rfl, .inl ⟨i, rfl⟩⟩ | succ n => exact .inl ⟨rfl, .inl ⟨i, rfl⟩⟩
theorem SameV.str {H : Hp} (n : Nat) (x : Str) : SameV H n (.str x) (.str x) := by cases n with | zero => exact ⟨rfl, .inr ⟨x, rfl⟩⟩ | succ n => exact .inl ⟨rfl, .inr ⟨x, rfl⟩⟩
def spSame (n : Nat) : Sp := fun vs H Q _ => ∃ a b, vs = [a, b] ∧ SameV H n a b ∧ ∀ H', Same H H' → Q (.bl true) H'
theorem pairedGet {α β : Type} {F : α → β → Prop} : ∀ {l₁ : List α} {l₂ : List β} {i : Nat} {a : α} {b : β}, Paired F l₁ l₂ → l₁[i]? = some a → l₂[i]? = some b → F a b
  | _, _, 0, _, _, .cons r _, h1, h2 => by cases h1; cases h2; exact r
  | _, _, i + 1, _, _, .cons _ t, h1, h2 => pairedGet (i := i) t (by simpa using h1) (by simpa using h2)
section
variable {P : Program} {w : World} {K : PySem.W.Frag} {mg : Str → Option Value} {base : Heap}
theorem scSame : FnScope ["_law_thing", "_law_due"] ["_law_thing", "_law_due"] (defScope sSame) := ⟨rfl, rfl, rfl, by decide +kernel, rfl, by decide +kernel, by decide +kernel⟩
theorem ndOO : (["_law_one", "_law_other"] : List Str).Nodup := by decide +kernel
theorem same_step {f : Addr} {fd : FuncData} {k : Nat} {spR : Sp} (F : Fun K "_law_same" "_law_same" sSame f fd) (T : Txt mg) (T2 : Txt2 mg) (mS : mg "_law_same" = some (.ref f)) (bS : L2.Binds K fd ["_law_thing", "_law_due"] [])
    (G : FnOk P w K mg base CX0 k f fd ["_law_thing", "_law_due"] spR) (SR : Hp → V → V → Prop) (hSR : ∀ H H', Same H H' → ∀ a b, SR H a b → SR H' a b) (hR : ∀ a b H Q E, SR H a b → (∀ H', Same H H' → Q (.bl true) H') → spR [a, b] H Q E) :
    FnOk P w K mg base CX0 (k + 1) f fd ["_law_thing", "_law_due"] (fun vs H Q _ => ∃ a b, vs = [a, b] ∧ (flatEq a b ∨ ∃ p q xs ys, a = .ref p ∧ b = .ref q ∧ ((H p = some (.lst xs) ∧ H q = some (.lst ys)) ∨ (H p = some (.tup xs) ∧ H q = some (.tup ys))) ∧ xs.length ≤ 1000 ∧ Paired (SR H) xs ys) ∧ ∀ H', Same H H' → Q (.bl true) H') := by
  refine F.ok scSame (fun vs H Q E h => ?_) (fun cdv A outer s H vs Q E hr h => ?_)
  · obtain ⟨a, b, rfl, _⟩ := h; rfl
  · obtain ⟨a, b, rfl, hS, q⟩ := h
    refine ⟨_, pss_cons (ps_if (pt_val (pe_callB call_isinstTs rfl T.isinstance boot_isinstance (pa_v (pv 1) (pa_t (pe_tup (pa_v (pe_bltn (v := .ty "list") rfl T2.list boot_list rfl) (pa_v (pe_bltn (v := .ty "tuple") rfl T.tuple boot_tuple rfl) pa_nil))) pa_nil))))
        (pss_cons (ps_if (PW.pt (pw_or (pt_not (pt_val (pe_callB call_isinstTs rfl T.isinstance boot_isinstance (pa_v (pv 0) (pa_t (pe_tup (pa_v (pe_bltn (v := .ty "list") rfl T2.list boot_list rfl) (pa_v (pe_bltn (v := .ty "tuple") rfl T.tuple boot_tuple rfl) pa_nil))) pa_nil)))))
            (pw_or1 (pt_cmpR op_ne (pe_callB call_isinst rfl T.isinstance boot_isinstance (pa_v (pv 0) (pa_v (pe_bltn (v := .ty "list") rfl T2.list boot_list rfl) pa_nil))) (pe_callB call_isinst rfl T.isinstance boot_isinstance (pa_v (pv 1) (pa_v (pe_bltn (v := .ty "list") rfl T2.list boot_list rfl) pa_nil))) (nomark _))))) (pss_one (ps_ret pe_bl)) pss_nil) <|
         pss_cons (ps_if (pt_cmpR op_ne (pe_callB call_len_seq rfl T.len PySem.boot_len (pa_v (pv 0) pa_nil)) (pe_callB call_len_seq rfl T.len PySem.boot_len (pa_v (pv 1) pa_nil)) (nomark _)) (pss_one (ps_ret pe_bl)) pss_nil) <|
         pss_one (ps_ret (pe_callB (call_all rfl) rfl T.all boot_all (pa_lc (pe_comp1 (defScope sSame).names ["_law_thing", "_law_due"] ["_law_one", "_law_other"] [] rfl (PI.or (pi_zip kL_ok rfl T2.zip (pa_v (pv 0) (pa_v (pv 1) pa_nil))) (pi_zip kT_ok rfl T2.zip (pa_v (pv 0) (pa_v (pv 1) pa_nil)))) rfl rfl rfl (by decide +kernel)
            (fun Z => pg_tup rfl (pgs_cons (pg_name (i := 0) ndOO rfl (Or.inl rfl)) (pgs_cons (pg_name (i := 1) ndOO rfl (Or.inl rfl)) pgs_nil))) (fun Z => pts_nil) (fun Z => pe_call G hr rfl mS F.kp bS .nil pass0 (pa_v (pv 0) (pa_v (pv 1) pa_nil)))) pa_nil)))) pss_nil) <|
      pss_cons (ps_if (pt_cmpR op_isN (pv 1) pe_non (nomark _)) (pss_one (ps_ret (pe_cmpR op_isN (pv 0) pe_non (nomark _)))) pss_nil) <|
      pss_one (ps_ret (pe_and (pe_cmpR op_eq (pe_callB call_isinst rfl T.isinstance boot_isinstance (pa_v (pv 0) (pa_v (pe_bltn (v := .ty "bool") rfl T.bool boot_bool rfl) pa_nil))) (pe_callB call_isinst rfl T.isinstance boot_isinstance (pa_v (pv 1) (pa_v (pe_bltn (v := .ty "bool") rfl T.bool boot_bool rfl) pa_nil))) (nomark _)) (pe_one (pe_cmpR op_eq (pv 0) (pv 1) (nomark _))))), ?_⟩
    rcases hS with ⟨rfl, hf⟩ | ⟨p, qq, xs, ys, rfl, rfl, hpq, hz, hP⟩
    · -- a number or a text
      obtain ⟨ty, hty, hT, hk, hb, hnn, hsc⟩ : ∃ ty, TyOf K H a ty ∧ (∃ T, ty = .type T) ∧ PySem.W.kitAny K ty (["list", "tuple"].map Value.type) = some false ∧ PySem.W.kitOne K ty (.type "bool") = some false ∧ a ≠ .non ∧ scal a a = true := by
        rcases hf with ⟨i, rfl⟩ | ⟨x, rfl⟩
        · exact ⟨_, .int i, ⟨_, rfl⟩, by kernel_rfl, by kernel_rfl, (fun z => by cases z), rfl⟩
        · exact ⟨_, .str x, ⟨_, rfl⟩, by kernel_rfl, by kernel_rfl, (fun z => by cases z), rfl⟩
      refine ⟨_, rfl, by show 2 ≤ sizeLine; decide, fun t ht => ?_⟩
      have s1 := same_upd (o := .tup [.ty "list", .ty "tuple"]) ht
      have hty1 : ∃ ty, TyOf K (upd H t (.tup [.ty "list", .ty "tuple"])) a ty ∧ (∃ T, ty = .type T) ∧ PySem.W.kitAny K ty (["list", "tuple"].map Value.type) = some false ∧ PySem.W.kitOne K ty (.type "bool") = some false := by
        rcases hf with ⟨i, rfl⟩ | ⟨x, rfl⟩
        · exact ⟨_, .int i, ⟨_, rfl⟩, by kernel_rfl, by kernel_rfl⟩
        · exact ⟨_, .str x, ⟨_, rfl⟩, by kernel_rfl, by kernel_rfl⟩
      obtain ⟨ty1, a1, a2, a3, a4⟩ := hty1
      refine ⟨_, t, ty1, false, ["list", "tuple"], rfl, upd_same, a1, a2, a3, _, rfl, iteF ?_⟩
      refine ⟨_, rfl, rfl, _, rfl, ?_⟩
      rw [decide_eq_false hnn]
      refine iteF ?_
      refine ⟨_, rfl, _, "bool", ty1, false, rfl, a1, a4, _, rfl, _, "bool", ty1, false, rfl, a1, a4, rfl, _, rfl, ?_⟩
      rw [decide_eq_true rfl]
      refine iteT ⟨_, rfl, _, rfl, hsc, ?_⟩
      rw [decide_eq_true rfl]
      exact q _ s1
    · have hlen : xs.length = ys.length := Paired.length hP
      -- both of one kind
      refine ⟨_, rfl, by show 2 ≤ sizeLine; decide, fun t ht => ?_⟩
      have s1 := same_upd (o := .tup [.ty "list", .ty "tuple"]) ht
      have kinds : ∃ T, (T = "list" ∨ T = "tuple") ∧ (∀ H', Same H H' → TyOf K H' (.ref p) (.type T) ∧ TyOf K H' (.ref qq) (.type T)) ∧ PySem.W.kitAny K (.type T) (["list", "tuple"].map Value.type) = some true ∧ PySem.W.kitOne K (.type T) (.type "list") = some (decide (T = "list")) := by
        rcases hpq with ⟨h1, h2⟩ | ⟨h1, h2⟩
        · exact ⟨"list", .inl rfl, fun H' s => ⟨.lst (s _ _ h1), .lst (s _ _ h2)⟩, by kernel_rfl, by kernel_rfl⟩
        · exact ⟨"tuple", .inr rfl, fun H' s => ⟨.tup (s _ _ h1), .tup (s _ _ h2)⟩, by kernel_rfl, by kernel_rfl⟩
      obtain ⟨TT, hTT, hk, k1, k2⟩ := kinds
      refine ⟨_, t, .type TT, true, ["list", "tuple"], rfl, upd_same, (hk _ s1).2, ⟨_, rfl⟩, k1, _, rfl, iteT ?_⟩
      refine ⟨_, rfl, by show 2 ≤ sizeLine; decide, fun t2 ht2 => ?_⟩
      have s2 := s1.trans (same_upd (o := .tup [.ty "list", .ty "tuple"]) ht2)
      refine ⟨_, t2, .type TT, true, ["list", "tuple"], rfl, upd_same, (hk _ s2).1, ⟨_, rfl⟩, k1, _, rfl, iteF ?_⟩
      refine ⟨_, rfl, _, "list", .type TT, _, rfl, (hk _ s2).1, k2, _, rfl, _, "list", .type TT, _, rfl, (hk _ s2).2, k2, rfl, _, rfl, iteNS rfl ?_⟩
      have sq : ∀ H', Same H H' → (SqL K H' p xs ∨ SqT K H' p xs) ∧ (SqL K H' qq ys ∨ SqT K H' qq ys) := fun H' s => by
        rcases hpq with ⟨h1, h2⟩ | ⟨h1, h2⟩
        · exact ⟨.inl (SqL.of (s _ _ h1)), .inl (SqL.of (s _ _ h2))⟩
        · exact ⟨.inr (SqT.of (s _ _ h1)), .inr (SqT.of (s _ _ h2))⟩
      refine ⟨_, rfl, p, xs, rfl, (sq _ s2).1, _, rfl, qq, ys, rfl, (sq _ s2).2, rfl, _, rfl, iteNS (by rw [hlen]) ?_⟩
      -- the loop, of lists or of tuples
      have loop : ∀ (kk : SeqK), (∀ H', Same H H' → kk.Sq K H' p xs ∧ kk.Sq K H' qq ys) → ∀ (l : Addr) (H2 : Hp), Same H H2 → H2 l = none → ∀ (Q' : L2.St → Hp → Prop), (∀ σ H', Same H2 H' → H' l = some (.lst (xs.map fun _ => V.bl true)) → Q' σ H') →
          tForJ (Itz (fun H xs => kk.Sq K H p xs) fun H ys => kk.Sq K H qq ys) (gTup K 2 (gCons (gName 0) (gCons (gName 1) gNil))) (tBodyC tAll (tEmit l (tCall spR [] E0 (tCons (tVar 0) (tCons (tVar 1) tNil))))) (eC Q') [none, none] (upd H2 l (.lst [])) := by
        intro kk hkk l H2 sH hl Q' hQ'
        refine for_zip (xs := xs) (ys := ys) hlen (fun i σ H' => σ.length = 2 ∧ Same H2 H' ∧ H' l = some (.lst ((xs.take i).map fun _ => V.bl true))) ⟨rfl, same_upd hl, by rw [upd_same]; rfl⟩ (fun i σ H' h => hkk H' (sH.trans h.2.1)) ?_ ?_
        · rintro i x y p3 σ H' hx hy ⟨hσ, hs, hl'⟩ hp3
          match σ, hσ with
          | [x0, x1], _ =>
          have s3 := same_upd (o := .tup [x, y]) hp3
          refine ⟨p3, _, rfl, SqT.of upd_same, rfl, _, _, rfl, _, _, rfl, rfl, ?_⟩
          refine body_all ?_
          refine ⟨_, rfl, _, rfl, ?_⟩
          refine hR x y _ _ _ (hSR _ _ ((sH.trans hs).trans s3) x y (pairedGet hP hx hy)) fun H4 s4 => ?_
          refine ⟨_, s4 _ _ (s3 _ _ hl'), small1000 (by rw [List.length_map, List.length_take]; omega), rfl, fun b' u e' => ?_, ?_⟩
          · rw [upd_ne (ne_of_none e' hl)]; exact s4 _ _ (s3 _ _ (hs _ _ e'))
          · rw [upd_same, List.take_succ, hx, List.map_append]; rfl
        · rintro σ H' ⟨_, hs, hl'⟩
          rw [List.take_of_length_le (Nat.le_refl _)] at hl'
          exact hQ' σ H' hs hl'
      have fin : ∀ (l : Addr) (H2 : Hp), Same H H2 → ∀ (σ : L2.St) (H' : Hp), Same H2 H' → H' l = some (.lst (xs.map fun _ => V.bl true)) → ∃ (p : Addr) (bs : List Bool), [V.ref l] = [.ref p] ∧ SqL K H' p (bs.map V.bl) ∧ Q (.bl (bs.all id)) H' := fun l H2 sH σ H' hs hl' => by
        refine ⟨l, xs.map fun _ => true, rfl, SqL.of (by rw [hl', List.map_map]; rfl), ?_⟩
        have : (xs.map fun _ => true).all id = true := by simp
        rw [this]
        exact q H' (sH.trans hs)
      rcases hpq with ⟨h1, h2⟩ | ⟨h1, h2⟩
      · refine .inl ⟨_, rfl, _, rfl, p, qq, xs, ys, rfl, SqL.of (s2 _ _ h1), SqL.of (s2 _ _ h2), fun Z l hl => ?_⟩
        exact loop kL (fun H' s => ⟨SqL.of (s _ _ h1), SqL.of (s _ _ h2)⟩) l _ s2 hl _ fun σ H' hs hl' => fin l _ s2 σ H' hs hl'
      · refine .inr ⟨_, rfl, _, rfl, p, qq, xs, ys, rfl, SqT.of (s2 _ _ h1), SqT.of (s2 _ _ h2), fun Z l hl => ?_⟩
        exact loop kT (fun H' s => ⟨SqT.of (s _ _ h1), SqT.of (s _ _ h2)⟩) l _ s2 hl _ fun σ H' hs hl' => fin l _ s2 σ H' hs hl'
theorem ok_same {f : Addr} {fd : FuncData} (F : Fun K "_law_same" "_law_same" sSame f fd) (T : Txt mg) (T2 : Txt2 mg) (mS : mg "_law_same" = some (.ref f)) (bS : L2.Binds K fd ["_law_thing", "_law_due"] []) : ∀ n : Nat, FnOk P w K mg base CX0 (n + 1) f fd ["_law_thing", "_law_due"] (spSame n)
  | 0 => (same_step (k := 0) F T T2 mS bS FnOk.never (fun _ _ _ => False) (fun _ _ _ _ _ z => z) (fun _ _ _ _ _ z => z.elim)).imp fun vs H Q E h => by
    obtain ⟨a, b, e, h1, h2⟩ := h
    exact ⟨a, b, e, .inl h1, h2⟩
  | n + 1 => (same_step (k := n + 1) F T T2 mS bS (ok_same F T T2 mS bS n) (fun H a b => SameV H n a b) (fun H H' s a b z => SameV.same s z) (fun a b H Q E h q => ⟨a, b, rfl, h, q⟩)).imp fun vs H Q E h => by
    obtain ⟨a, b, e, h1, h2⟩ := h
    exact ⟨a, b, e, h1, h2⟩
end
end M42

set_option Elab.async false
set_option linter.all false
set_option maxRecDepth 100000
set_option maxHeartbeats 4000000
namespace M42
open PySem L2 PyProof.Rows Grd
/-- the classes of refusals -/
structure Cls (K : PySem.W.Frag) (mg : Str → Option Value) (cE cM cP cL : Addr) : Prop where
  mE : mg "MeadError" = some (.ref cE)
  mM : mg "NoMead" = some (.ref cM)
  mP : mg "NoPlace" = some (.ref cP)
  mL : mg "NoLand" = some (.ref cL)
  mV : mg "ValueError" = none
  d : ExcD K cP
  x : PySem.W.exmOne K (.ref cP) (.ref cE) = some true
  k1 : PySem.W.kitOne K (.ref cP) (.ref cP) = some true
  k2 : PySem.W.kitOne K (.ref cP) (.ref cM) = some false
  k3 : PySem.W.kitOne K (.ref cP) (.ref cL) = some false
  k4 : PySem.W.kitOne K (.ref cP) (.type "ValueError") = some true
def spTold : Sp := fun vs H Q _ => ∃ a g w v, vs = [.ref a, v] ∧ GridAt H a g ∧ Good g w ∧ Kn H 2 v ∧ (∀ c H', placeOf H v = some c → c ∈ gridF pos g → Same H H' → Q (.int (atG g c)) H') ∧ (isCell H g v = false → ∀ H', Same H H' → Q (.str "none") H')
section
variable {P : Program} {w : World} {K : PySem.W.Frag} {mg : Str → Option Value} {base : Heap}
abbrev nTold : List Str := ["_law_mead_here", "_law_place", "e", "_law_marks"]
theorem scTold : FnScope nTold ["_law_mead_here", "_law_place"] (defScope sTold) := ⟨rfl, rfl, rfl, by decide +kernel, rfl, by decide +kernel, by decide +kernel⟩
theorem boot_ve : bootBuiltins "ValueError" = some (.type "ValueError") := by decide +kernel
def hSuite (s : Stmt) : List Stmt := match defBody s with | [.Try _ [.ExceptHandler _ _ b _] _ _ _] => b | _ => []
theorem ok_told {f gW cE cM cP cL : Addr} {fd dW : FuncData} (F : Fun K "_law_told" "_law_told" sTold f fd) (T : Txt mg) (C : Cls K mg cE cM cP cL) (aW : At P w K mg base (CX1 P w) 6 "worth_at" gW dW ["mead", "place"] (spWorth cP)) : FnOk P w K mg base CX0 7 f fd ["_law_mead_here", "_law_place"] spTold := by
  have nd := scTold.nd
  refine F.okTry (i := 2) (Cy := cE) scTold (fun vs H Q E h => ?_) rfl rfl C.mE rfl rfl (by decide) (fun cdv A outer s H vs Q E hr h => ?_)
  · obtain ⟨a, g, w', v, rfl, _⟩ := h; rfl
  · obtain ⟨a, g, w', v, rfl, hA, G, k, q1, q2⟩ := h
    have hu : (A.deeper (envOfC "_law_told" (defScope sTold) s.heap.objs.size f cdv)).units < cLine := by have := hr.un; omega
    have hS : ∀ (e : Addr) (oe : Obj), ∃ tt, PSs ((cxOf CX0 P w K mg base nTold "_law_told" (defScope sTold) f cdv A outer s H E).nox.within e oe) (hSuite sTold) tt ∧
        ∀ H', oe.cls = .ref cP → Q (.str "none") H' ∧ (∀ H2, Same H' H2 → Q (.str "none") H2) → tt { nx := fun _ _ => False, rt := Q } [none, none, some (.ref e), none] H' := fun e oe => by
      refine ⟨_, pss_cons (ps_set (i := 3) nd rfl (Or.inl rfl) (pe_lst (pa_k (pe_callB (call_isinstX C.d) rfl T.isinstance boot_isinstance (pa_v (pv 2) (pa_v (pe_glob (v := .ref cP) rfl C.mP rfl) pa_nil)))
          (pa_k (pe_callB (call_isinstX C.d) rfl T.isinstance boot_isinstance (pa_v (pv 2) (pa_v (pe_glob (v := .ref cM) rfl C.mM rfl) pa_nil)))
          (pa_k (pe_callB (call_isinstX C.d) rfl T.isinstance boot_isinstance (pa_v (pv 2) (pa_v (pe_glob (v := .ref cL) rfl C.mL rfl) pa_nil)))
          (pa_k (pe_callB (call_isinstX C.d) rfl T.isinstance boot_isinstance (pa_v (pv 2) (pa_v (pe_bltn (v := .ty "ValueError") rfl C.mV boot_ve rfl) pa_nil))) pa_nil)))))) <|
        pss_one (ps_ret (pe_ifExp (pt_cmpR (op_eqB hu) (pv 3) (pe_lst (pa_c pe_bl (pa_c pe_bl (pa_c pe_bl (pa_c pe_bl pa_nil))))) (nomark _)) pe_str pe_str)), fun H' hc qq => ?_⟩
      refine ⟨_, rfl, hc, .inl ⟨cP, true, rfl, C.k1, ?_⟩⟩
      refine ⟨_, rfl, hc, .inl ⟨cM, false, rfl, C.k2, ?_⟩⟩
      refine ⟨_, rfl, hc, .inl ⟨cL, false, rfl, C.k3, ?_⟩⟩
      refine ⟨_, rfl, hc, .inr ⟨"ValueError", true, rfl, C.k4, ?_⟩⟩
      refine ⟨by show 4 ≤ sizeLine; decide, fun l hl => ?_⟩
      have s1 := same_upd (o := .lst [.bl true, .bl false, .bl false, .bl true]) hl
      refine ⟨_, rfl, by show 4 ≤ sizeLine; decide, fun l2 hl2 => ?_⟩
      have s2 := same_upd (o := .lst [.bl true, .bl false, .bl false, .bl true]) hl2
      refine ⟨l, l2, [true, false, false, true], rfl, rfl, s2 _ _ upd_same, upd_same, _, rfl, iteT ?_⟩
      exact qq.2 _ (s1.trans s2)
    refine ⟨fun cls _ H' => cls = .ref cP ∧ isCell H g v = false ∧ Same H H', _, fun e oe => (hS e oe).choose, pss_one (ps_ret (pe_call aW.ok hr rfl aW.nm aW.kp aW.bd .nil pass_lands (pa_v (pv 0) (pa_v (pv 1) pa_nil)))), fun e oe => (hS e oe).choose_spec.1, ?_, ?_, ?_⟩
    · refine ⟨_, rfl, _, rfl, a, g, w', v, rfl, hA, G, k, q1, fun hi H' hs => ⟨rfl, hi, hs⟩⟩
    · rintro cls H' ⟨rfl, _⟩
      exact C.x
    · rintro e oe cls H' hc ⟨rfl, hi, hs⟩
      exact (hS e oe).choose_spec.2 H' hc ⟨q2 hi H' hs, fun H2 s2 => q2 hi H2 (hs.trans s2)⟩
abbrev nLC : List Str := ["_law_mead_here", "_law_found", "_law_row", "_law_numbers"]
theorem scLC : FnScope nLC ["_law_mead_here"] (defScope sLCells) := ⟨rfl, rfl, rfl, by decide +kernel, rfl, by decide +kernel, by decide +kernel⟩
theorem ndCN : (["_law_column", "_law_number", "_law_row"] : List Str).Nodup := by decide +kernel
theorem ok_lcells {f : Addr} {fd : FuncData} (F : Fun K "_law_cells" "_law_cells" sLCells f fd) (T : Txt mg) : FnOk P w K mg base CX0 1 f fd ["_law_mead_here"] (spGrid pos) := by
  refine F.ok scLC (fun vs H Q E h => ?_) (fun cdv A outer s H vs Q E hr h => ?_)
  · obtain ⟨a, g, w', rfl, _⟩ := h; rfl
  · obtain ⟨a, g, w', rfl, ⟨bs, ha, hG⟩, G, q⟩ := h
    have nd := scLC.nd
    refine ⟨_, pss_cons (ps_set (i := 1) nd rfl (Or.inl rfl) (pe_lst pa_nil)) <|
      pss_cons (ps_for PassesOwn.never rfl (pi_enumT rfl rfl T.enumerate (pa_v (pv 0) pa_nil)) (pg_tup rfl (pgs_cons (pg_name (i := 2) nd rfl (Or.inr rfl)) (pgs_cons (pg_name (i := 3) nd rfl (Or.inl rfl)) pgs_nil)))
        (pss_one (ps_expr (pe_bm PySem.F.plainAttrs_list PySem.F.slot_list_extend PySem.F.type_list_extend mt_extend (pv 1) (pa_lc (pe_comp1 (defScope sLCells).names nLC ["_law_column", "_law_number"] [("_law_row", 2)] rfl (pi_enumT rfl rfl T.enumerate (pa_v (pv 3) pa_nil)) rfl rfl rfl (by decide +kernel)
          (fun Z => pg_tup rfl (pgs_cons (pg_name (i := 0) ndCN rfl (Or.inl rfl)) (pgs_cons (pg_name (i := 1) ndCN rfl (Or.inl rfl)) pgs_nil))) (fun Z => pts_one (pt_cmpR op_ge (pv 1) pe_int (nomark _))) (fun Z => pe_tup (pa_v (pv 2) (pa_v (pv 0) pa_nil)))) pa_nil))))) <|
      pss_one (ps_ret (pv 1)), ?_⟩
    refine ⟨by show 0 ≤ sizeLine; decide, fun l hl => ?_⟩
    have s0 := same_upd (o := .lst []) hl
    have hbs : bs.length = g.length := Paired.length hG
    refine ⟨_, rfl, a, _, rfl, SqT.of (s0 _ _ ha), ?_⟩
    refine for_enum (xs := bs.map V.ref) (fun i σ H' => (∃ o2 o3, σ = [some (.ref a), some (.ref l), o2, o3]) ∧ Same H H' ∧ ∃ ps, H' l = some (.lst (ps.map V.ref)) ∧ PlAt H' ps (gridF pos (g.take i)) ∧ ps.length ≤ 6 * i) ⟨⟨_, _, rfl⟩, s0, [], by rw [upd_same]; rfl, .nil, Nat.zero_le _⟩ (fun i σ H' _ h => SqT.of (h.2.1 _ _ ha)) ?_ ?_
    · rintro i r p σ H' hx ⟨⟨o2, o3, rfl⟩, hs, ps, hl', hP, hn⟩ hp
      obtain ⟨b, hbi, rfl⟩ : ∃ b, bs[i]? = some b ∧ V.ref b = r := by
        rw [List.getElem?_map] at hx
        cases e : bs[i]? with
        | none => rw [e] at hx; cases hx
        | some b => rw [e] at hx; exact ⟨b, rfl, Option.some.inj hx⟩
      obtain ⟨xs, hgi, hb⟩ := hG.row hbi
      have hx5 : xs.length ≤ 5 := by have := G.len xs (List.mem_of_getElem? hgi); have := G.w5; omega
      have h4 := G.h4
      have hi4 : i < 4 := Nat.lt_of_lt_of_le (List.getElem?_eq_some_iff.mp hgi).1 h4
      have s1 : Same H' (upd H' p (.tup [.int i, .ref b])) := same_upd hp
      refine ⟨p, _, rfl, SqT.of upd_same, rfl, _, _, rfl, _, _, rfl, rfl, ?_⟩
      refine ⟨_, rfl, .inl ⟨rfl, _, SqL.of (s1 _ _ hl')⟩, _, rfl, b, xs.map V.int, rfl, SqT.of (s1 _ _ (hs _ _ hb)), fun Z l2 hl2 => ?_⟩
      have sA := hs.trans s1
      refine for_enum (xs := xs.map V.int) (fun j σ H2 => (∃ y1 y2, σ = [y1, y2, some (.int i)]) ∧ Same (upd H' p (.tup [.int i, .ref b])) H2 ∧ ∃ zs, H2 l2 = some (.lst (zs.map V.ref)) ∧ PlAt H2 zs (rowF pos i (xs.take j)) ∧ zs.length ≤ j) ⟨⟨_, _, rfl⟩, same_upd hl2, [], by rw [upd_same]; rfl, .nil, Nat.zero_le _⟩ (fun j σ H2 _ h => SqT.of (h.2.1 _ _ (sA _ _ hb))) ?_ ?_
      · rintro j x p2 σ H2 hxj ⟨⟨y1, y2, rfl⟩, hs2, zs, hl2', hP2, hn2⟩ hp2
        obtain ⟨z, hzj, rfl⟩ : ∃ z, xs[j]? = some z ∧ V.int z = x := by
          rw [List.getElem?_map] at hxj
          cases e : xs[j]? with
          | none => rw [e] at hxj; cases hxj
          | some z => rw [e] at hxj; exact ⟨z, rfl, Option.some.inj hxj⟩
        have hj : j < 5 := Nat.lt_of_lt_of_le (List.getElem?_eq_some_iff.mp hzj).1 hx5
        have s2 : Same H2 (upd H2 p2 (.tup [.int j, .int z])) := same_upd hp2
        refine ⟨p2, _, rfl, SqT.of upd_same, rfl, _, _, rfl, _, _, rfl, rfl, ?_⟩
        refine ⟨_, rfl, _, _, rfl, rfl, _, rfl, iteB (fun e => ?_) fun e => ?_⟩
        · refine ⟨_, rfl, _, rfl, (by show 2 ≤ sizeLine; decide), fun q3 hq3 => ?_⟩
          have s3 := same_upd (o := .tup [.int i, .int j]) hq3
          have hlq : l2 ≠ q3 := ne_of_none (s2 _ _ hl2') hq3
          refine ⟨_, s3 _ _ (s2 _ _ hl2'), small1000 (by rw [List.length_map]; omega), ⟨_, _, rfl⟩, fun b' u e' => ?_, zs ++ [q3], ?_, ?_, ?_⟩
          · rw [upd_ne (ne_of_none e' hl2)]; exact s3 _ _ (s2 _ _ (hs2 _ _ e'))
          · rw [upd_same, List.map_append]; rfl
          · have hne : ∀ b' u, (upd (upd H2 p2 (.tup [.int j, .int z])) q3 (.tup [.int i, .int j])) b' = some (.tup u) → (upd (upd (upd H2 p2 (.tup [.int j, .int z])) q3 (.tup [.int i, .int j])) l2 (.lst (zs.map V.ref ++ [.ref q3]))) b' = some (.tup u) := fun b' u e' => by
              rw [upd_ne (fun z' => ?_)]; exact e'
              rw [z', upd_ne hlq, s2 _ _ hl2'] at e'; cases e'
            rw [Grd.rowF_succ pos i xs j _ hzj, if_pos (show pos z = true from e)]
            exact PlAt.snoc (Paired.mapP ((hP2.same s2).same s3) fun _ _ e' => hne _ _ e') (hne _ _ upd_same)
          · rw [List.length_append]; show zs.length + 1 ≤ _; omega
        · refine ⟨⟨_, _, rfl⟩, hs2.trans s2, zs, s2 _ _ hl2', ?_, by omega⟩
          rw [Grd.rowF_succ pos i xs j _ hzj, if_neg (by rw [show pos z = false from e]; decide), List.append_nil]
          exact hP2.same s2
      · rintro σ H2 ⟨⟨y1, y2, rfl⟩, hs2, zs, hl2', hP2, hn2⟩
        rw [List.length_map] at hP2 hn2
        rw [List.take_of_length_le (Nat.le_refl _)] at hP2
        have hlH2 := hs2 _ _ (s1 _ _ hl')
        have hll : l2 ≠ l := fun z => by rw [z, s1 _ _ hl'] at hl2; cases hl2
        refine ⟨l, l2, _, _, rfl, rfl, hlH2, hl2', by rw [List.length_map, List.length_map, sizeLine_eq]; omega, ?_⟩
        have keepT : ∀ b' u, H2 b' = some (.tup u) → (upd H2 l (.lst (ps.map V.ref ++ zs.map V.ref))) b' = some (.tup u) := fun b' u e' => by
          rw [upd_ne (fun z' => ?_)]; exact e'
          rw [z', hlH2] at e'; cases e'
        refine ⟨⟨_, _, rfl⟩, fun b' u e' => ?_, ps ++ zs, by rw [upd_same, List.map_append], ?_, by rw [List.length_append]; omega⟩
        · rw [upd_ne (ne_of_none e' hl)]; exact hs2 _ _ (s1 _ _ (hs _ _ e'))
        · rw [Grd.gridF_succ pos g i _ hgi]
          have app : ∀ {as bs : List Addr} {cs ds : List (Int × Int)}, PlAt (upd H2 l (.lst (ps.map V.ref ++ zs.map V.ref))) as cs → PlAt (upd H2 l (.lst (ps.map V.ref ++ zs.map V.ref))) bs ds → PlAt (upd H2 l (.lst (ps.map V.ref ++ zs.map V.ref))) (as ++ bs) (cs ++ ds) := by
            intro as bs cs ds h1 h2
            induction h1 with
            | nil => exact h2
            | cons r t ih => exact .cons r ih
          exact app (Paired.mapP ((hP.same s1).same hs2) fun _ _ e' => keepT _ _ e') (Paired.mapP hP2 fun _ _ e' => keepT _ _ e')
    · rintro σ H' ⟨⟨o2, o3, rfl⟩, hs, ps, hl', hP, _⟩
      rw [List.length_map, hbs, List.take_of_length_le (Nat.le_refl _)] at hP
      exact ⟨_, rfl, q H' l ps hl hs hl' hP⟩
end
end M42

set_option Elab.async false
set_option linter.all false
set_option maxRecDepth 100000
set_option maxHeartbeats 4000000
namespace M42
open PySem L2 PyProof.Rows Grd
abbrev sLaw : Stmt := top 35
abbrev pas : Stmt := .Pass ⟨0, 0, 0, 0⟩
abbrev cell1 : List Stmt := forBody ((defBody sLaw).getD 0 pas)
abbrev rows1 : List Stmt := forBody (cell1.getD 3 pas)
abbrev cols1 : List Stmt := forBody (rows1.getD 0 pas)
abbrev laps1 : List Stmt := forBody (cell1.getD 6 pas)
def spLaw (K : PySem.W.Frag) : Sp := fun vs H Q _ => ∃ (a : Addr) (ns : List Int), vs = [.ref a] ∧ SqL K H a (ns.map V.int) ∧ ns.length ≤ 63 ∧ ∀ H', Q (.bl true) H'
abbrev nLaw : List Str := ["_law_script", "_law_cell_here", "_law_pen_here", "_law_mead_here", "_law_cells_here", "_law_roads", "_law_total", "_law_row", "_law_column", "_law_inside", "_law_number", "_law_due", "_law_odd", "_law_lap", "_law_told_here"]
theorem scLaw : FnScope nLaw ["_law_script"] (defScope sLaw) := ⟨rfl, rfl, rfl, by decide +kernel, rfl, by decide +kernel, by decide +kernel⟩
abbrev σL (sa p a ce ro : Addr) (c tot : Int) (o7 o8 o9 o10 o11 o12 o13 o14 : Option V) : L2.St := [some (.ref sa), some (.int c), some (.ref p), some (.ref a), some (.ref ce), some (.ref ro), some (.int tot), o7, o8, o9, o10, o11, o12, o13, o14]
/-- all but the list at ro is as it was -/
structure Kp (ro : Addr) (H H' : Hp) : Prop where
  keep : ∀ b o, b ≠ ro → H b = some o → H' b = some o
  l0 : ∃ xs, H ro = some (.lst xs)
  l1 : ∃ xs, H' ro = some (.lst xs)
theorem Kp.trans {ro : Addr} {H H1 H2 : Hp} (x : Kp ro H H1) (y : Kp ro H1 H2) : Kp ro H H2 := ⟨fun b o h e => y.keep b o h (x.keep b o h e), x.l0, y.l1⟩
theorem Kp.same {ro : Addr} {H H1 H2 : Hp} (x : Kp ro H H1) (y : Same H1 H2) : Kp ro H H2 := ⟨fun b o h e => y _ _ (x.keep b o h e), x.l0, let ⟨xs, e⟩ := x.l1; ⟨xs, y _ _ e⟩⟩
theorem Kp.ext {ro : Addr} {H H' : Hp} (x : Kp ro H H') : Ext H H' where
  tup := fun a xs e => x.keep a _ (fun z => by obtain ⟨ys, e2⟩ := x.l0; rw [z, e2] at e; cases e) e
  lst := fun a xs e => by
    by_cases ha : a = ro
    · subst ha; exact x.l1
    · exact ⟨xs, x.keep a _ ha e⟩
  dct := fun a xs e => x.keep a _ (fun z => by obtain ⟨ys, e2⟩ := x.l0; rw [z, e2] at e; cases e) e
theorem PlAt.ext {H H' : Hp} {ps : List Addr} {cs : List (Int × Int)} (h : PlAt H ps cs) (e : Ext H H') : PlAt H' ps cs := Paired.mapP h fun _ _ z => e.tup _ _ z
section
variable {P : Program} {w : World} {K : PySem.W.Frag} {mg : Str → Option Value} {base : Heap}
/-- the turn over one place -/
theorem law_col {f gT gS : Addr} {dT dS : FuncData} (T : Txt mg) (T2 : Txt2 mg) (aT : At P w K mg base CX0 7 "_law_told" gT dT ["_law_mead_here", "_law_place"] spTold) (aS : At P w K mg base CX0 4 "_law_same" gS dS ["_law_thing", "_law_due"] (spSame 3))
    (cdv : Value) (A : Around) (outer : List Env) (s : Shared) (H : Hp) (E : XK) (hr : Room 7 (A.deeper (envOfC "law" (defScope sLaw) s.heap.objs.size f cdv))) :
    ∃ tt, PSs (cxOf CX0 P w K mg base nLaw "law" (defScope sLaw) f cdv A outer s H E).nox cols1 tt ∧ ∀ (sa p a ce ro : Addr) (c tot r cc : Int) (g : Grid) (w' : Nat) (o9 o10 o11 o12 o13 o14 : Option V) (H1 : Hp) (rs : List Addr) (cs : List (Int × Int)) (De : Ends),
      GridAt H1 a g → Good g w' → H1 ro = some (.lst (rs.map V.ref)) → PlAt H1 rs cs → rs.length ≤ 100 →
      (∀ x9 x10 x11 H2 rs2, Kp ro H1 H2 → H2 ro = some (.lst (rs2.map V.ref)) → PlAt H2 rs2 (cs ++ if road (numAt g w' r cc) then [(r, cc)] else []) → rs2.length ≤ rs.length + 1 →
        De.nx (σL sa p a ce ro c (tot + if numAt g w' r cc > 0 then numAt g w' r cc else 0) (some (.int r)) (some (.int cc)) x9 x10 x11 o12 o13 o14) H2) →
      tt De (σL sa p a ce ro c tot (some (.int r)) (some (.int cc)) o9 o10 o11 o12 o13 o14) H1 := by
  have nd := scLaw.nd
  -- told, and compared
  have t6 : ∃ tt, PSs (cxOf CX0 P w K mg base nLaw "law" (defScope sLaw) f cdv A outer s H E).nox (cols1.drop 4) tt ∧ ∀ (sa p a ce ro : Addr) (c tot r cc : Int) (g : Grid) (w' : Nat) (o9 o11 o12 o13 o14 : Option V) (H1 : Hp) (De : Ends),
      GridAt H1 a g → Good g w' → (∀ x11 H2, Same H1 H2 → De.nx (σL sa p a ce ro c tot (some (.int r)) (some (.int cc)) o9 (some (.int (numAt g w' r cc))) x11 o12 o13 o14) H2) →
      tt De (σL sa p a ce ro c tot (some (.int r)) (some (.int cc)) o9 (some (.int (numAt g w' r cc))) o11 o12 o13 o14) H1 := by
    refine ⟨_, pss_cons (ps_set (i := 11) nd rfl (Or.inl rfl) (pe_ifExp (pt_cmpR op_ge (pv 10) pe_int (nomark _)) (pv 10) pe_str)) <|
      pss_one (ps_if (pt_not (pt_val (pe_call aS.ok (hr.mono (by decide)) rfl aS.nm aS.kp aS.bd .nil pass0 (pa_k (pe_call aT.ok hr rfl aT.nm aT.kp aT.bd .nil pass0 (pa_v (pv 3) (pa_t (pe_tup (pa_v (pv 7) (pa_v (pv 8) pa_nil))) pa_nil))) (pa_v (pv 11) pa_nil))))) (pss_one (ps_ret pe_bl)) pss_nil), ?_⟩
    intro sa p a ce ro c tot r cc g w' o9 o11 o12 o13 o14 H1 De hA G k
    have kn : ∀ (t : Addr) (H2 : Hp), H2 t = some (.tup [.int r, .int cc]) → Kn H2 2 (.ref t) := fun t H2 e => .inr (.inr ⟨_, e, by simp, fun x hx => by
      rcases List.mem_cons.mp hx with z | z
      · rw [z]; exact True.intro
      · rw [List.mem_singleton.mp z]; exact True.intro⟩)
    refine ⟨_, rfl, _, _, rfl, rfl, _, rfl, ite2d (fun h0 => ?_) fun h0 => ?_⟩
    · refine ⟨_, rfl, _, rfl, _, rfl, _, rfl, by show 2 ≤ sizeLine; decide, fun t ht => ?_⟩
      have s1 := same_upd (o := .tup [.int r, .int cc]) ht
      have pl : placeOf (upd H1 t (.tup [.int r, .int cc])) (.ref t) = some (r, cc) := by unfold placeOf; rw [tupOf_of upd_same]
      have hm : (r, cc) ∈ gridF pos g := (mem_cells G r cc).mpr h0
      refine ⟨a, g, w', .ref t, rfl, hA.same s1, G, kn t _ upd_same, fun c2 H2 e1 e2 s2 => ?_, fun e => ?_⟩
      · rw [pl] at e1
        cases e1
        refine ⟨_, rfl, _, _, rfl, ?_, fun H3 s3 => ⟨_, rfl, iteF ?_⟩⟩
        · rw [← numAt_cell h0]; exact SameV.int 3 _
        · exact k _ H3 ((s1.trans s2).trans s3)
      · unfold isCell at e
        rw [pl] at e
        simp [hm] at e
    · refine ⟨_, rfl, _, rfl, _, rfl, by show 2 ≤ sizeLine; decide, fun t ht => ?_⟩
      have s1 := same_upd (o := .tup [.int r, .int cc]) ht
      have pl : placeOf (upd H1 t (.tup [.int r, .int cc])) (.ref t) = some (r, cc) := by unfold placeOf; rw [tupOf_of upd_same]
      have hm : (r, cc) ∉ gridF pos g := fun z => h0 ((mem_cells G r cc).mp z)
      refine ⟨a, g, w', .ref t, rfl, hA.same s1, G, kn t _ upd_same, fun c2 H2 e1 e2 s2 => ?_, fun _ H2 s2 => ?_⟩
      · rw [pl] at e1
        cases e1
        exact absurd e2 hm
      · exact ⟨_, rfl, _, _, rfl, SameV.str 3 _, fun H3 s3 => ⟨_, rfl, iteF (k _ H3 ((s1.trans s2).trans s3))⟩⟩
  obtain ⟨t6, h6, r6⟩ := t6
  -- a road is written down, the total goes on
  have t3 : ∃ tt, PSs (cxOf CX0 P w K mg base nLaw "law" (defScope sLaw) f cdv A outer s H E).nox (cols1.drop 2) tt ∧ ∀ (sa p a ce ro : Addr) (c tot r cc : Int) (g : Grid) (w' : Nat) (o9 o11 o12 o13 o14 : Option V) (H1 : Hp) (rs : List Addr) (cs : List (Int × Int)) (De : Ends),
      GridAt H1 a g → Good g w' → H1 ro = some (.lst (rs.map V.ref)) → PlAt H1 rs cs → rs.length ≤ 100 →
      (∀ x11 H2 rs2, Kp ro H1 H2 → H2 ro = some (.lst (rs2.map V.ref)) → PlAt H2 rs2 (cs ++ if road (numAt g w' r cc) then [(r, cc)] else []) → rs2.length ≤ rs.length + 1 →
        De.nx (σL sa p a ce ro c (tot + if numAt g w' r cc > 0 then numAt g w' r cc else 0) (some (.int r)) (some (.int cc)) o9 (some (.int (numAt g w' r cc))) x11 o12 o13 o14) H2) →
      tt De (σL sa p a ce ro c tot (some (.int r)) (some (.int cc)) o9 (some (.int (numAt g w' r cc))) o11 o12 o13 o14) H1 := by
    refine ⟨_, pss_cons (ps_if (pt_cmpR op_eq (pv 10) (pe_un un_neg pe_int) (nomark _)) (pss_one (ps_expr (pe_bm PySem.F.plainAttrs_list PySem.F.slot_list_append PySem.F.type_list_append mt_append (pv 5) (pa_t (pe_tup (pa_v (pv 7) (pa_v (pv 8) pa_nil))) pa_nil)))) pss_nil) <|
      pss_cons (ps_set (i := 6) nd rfl (Or.inl rfl) (pe_op op_add (pv 6) (pe_callB (call_max2 rfl) rfl T2.max boot_max (pa_c pe_int (pa_v (pv 10) pa_nil))))) h6, ?_⟩
    intro sa p a ce ro c tot r cc g w' o9 o11 o12 o13 o14 H1 rs cs De hA G hro hP hz k
    refine ⟨_, rfl, _, rfl, rfl, _, rfl, ite2d (fun e1 => ?_) fun e1 => ?_⟩
    · have hrd : road (numAt g w' r cc) = true := decide_eq_true (V.int.inj e1)
      refine ⟨_, rfl, .inl ⟨rfl, _, SqL.of hro⟩, _, rfl, _, rfl, by show 2 ≤ sizeLine; decide, fun t ht => ?_⟩
      have s1 := same_upd (o := .tup [.int r, .int cc]) ht
      have htr : t ≠ ro := fun z => by rw [z, hro] at ht; cases ht
      refine ⟨ro, _, _, rfl, rfl, s1 _ _ hro, small1000 (by rw [List.length_map]; omega), ?_⟩
      have kp : Kp ro H1 (upd (upd H1 t (.tup [.int r, .int cc])) ro (.lst (rs.map V.ref ++ [.ref t]))) := ⟨fun b o h e => by rw [upd_ne h]; exact s1 _ _ e, ⟨_, hro⟩, ⟨_, upd_same⟩⟩
      refine ⟨_, rfl, _, rfl, _, _, rfl, _, _, rfl, rfl, ?_⟩
      refine r6 sa p a ce ro c _ r cc g w' o9 o11 o12 o13 o14 _ De (hA.ext kp.ext) G fun x11 H2 s2 => ?_
      refine k x11 H2 (rs ++ [t]) (kp.same s2) (s2 _ _ (by rw [upd_same, List.map_append]; rfl)) ?_ (by rw [List.length_append]; exact Nat.le_refl _)
      rw [hrd, if_pos rfl]
      exact (PlAt.snoc (c := (r, cc)) (PlAt.ext hP kp.ext) (by rw [upd_ne htr, upd_same])).same s2
    · have hrd : road (numAt g w' r cc) = false := decide_eq_false fun z => e1 (by rw [z])
      refine ⟨_, rfl, _, rfl, _, _, rfl, _, _, rfl, rfl, ?_⟩
      refine r6 sa p a ce ro c _ r cc g w' o9 o11 o12 o13 o14 _ De hA G fun x11 H2 s2 => ?_
      have kp : Kp ro H1 H2 := ⟨fun b o h e => s2 _ _ e, ⟨_, hro⟩, ⟨_, s2 _ _ hro⟩⟩
      refine k x11 H2 rs kp (s2 _ _ hro) ?_ (by omega)
      rw [hrd, if_neg (by decide), List.append_nil]
      exact hP.same s2
  obtain ⟨t3, h3, r3⟩ := t3
  refine ⟨_, pss_cons (ps_set (i := 9) nd rfl (Or.inl rfl) (pe_and (pe_chain op_le op_lt pe_int (pv 7) (pe_callB call_len_seq rfl T.len PySem.boot_len (pa_v (pv 3) pa_nil))) (pe_one (pe_chain op_le op_lt pe_int (pv 8) (pe_callB call_len_seq rfl T.len PySem.boot_len (pa_s (pe_ix ix_tup (pv 3) pe_int (fun _ _ => rfl)) pa_nil)))))) <|
    pss_cons (ps_set (i := 10) nd rfl (Or.inl rfl) (pe_ifExp (pt_val (pv 9)) (pe_ix ix_tup (pe_ix ix_tup (pv 3) (pv 7) (fun _ _ => rfl)) (pv 8) (fun _ _ => rfl)) (pe_un un_neg pe_int))) h3, ?_⟩
  intro sa p a ce ro c tot r cc g w' o9 o10 o11 o12 o13 o14 H1 rs cs De hA G hro hP hz k
  obtain ⟨bs, ha, hG⟩ := id hA
  have hbs : bs.length = g.length := Paired.length hG
  have hlen : (bs.map V.ref).length = g.length := by rw [List.length_map, hbs]
  have out : ∀ (b : Bool) , (b = false) → ¬ (0 ≤ r ∧ r < g.length ∧ 0 ≤ cc ∧ cc < w') → ∃ v, (some (V.bl b)) = some v ∧ ∃ b', v = V.bl b' ∧ (if b' = true then False else True) := fun b e _ => ⟨_, rfl, b, rfl, by rw [e]; trivial⟩
  have beyond : ¬ (0 ≤ r ∧ r < g.length ∧ 0 ≤ cc ∧ cc < w') → numAt g w' r cc = -2 := fun h => by unfold Grd.numAt; rw [if_neg h]
  have fin : ∀ (ins : Bool), ins = decide (0 ≤ r ∧ r < g.length ∧ 0 ≤ cc ∧ cc < w') → t3 De (σL sa p a ce ro c tot (some (.int r)) (some (.int cc)) (some (.bl ins)) (some (.int (numAt g w' r cc))) o11 o12 o13 o14) H1 := fun ins _ =>
    r3 sa p a ce ro c tot r cc g w' _ o11 o12 o13 o14 H1 rs cs De hA G hro hP hz fun x11 H2 rs2 k1 k2 k3 k4 => k _ _ x11 H2 rs2 k1 k2 k3 k4
  have no : ¬ (0 ≤ r ∧ r < g.length ∧ 0 ≤ cc ∧ cc < w') → t3 De (σL sa p a ce ro c tot (some (.int r)) (some (.int cc)) (some (.bl false)) (some (.int (-2))) o11 o12 o13 o14) H1 := fun h => by
    have := fin false (decide_eq_false h).symm
    rw [beyond h] at this
    exact this
  refine ⟨_, rfl, _, _, rfl, rfl, _, rfl, ite2d (fun r0 => ?_) fun r0 => ?_⟩
  · refine ⟨_, rfl, a, _, rfl, .inr (SqT.of ha), _, _, rfl, rfl, _, rfl, ?_⟩
    rw [hlen]
    refine ite2d (fun r1 => ?_) fun r1 => ?_
    · refine ⟨_, rfl, _, _, rfl, rfl, _, rfl, ite2d (fun c0 => ?_) fun c0 => ?_⟩
      · have l0 : 0 < g.length := by have := G.h1; omega
        obtain ⟨b0, hb0, hr0⟩ := hG.get (i := 0) (xs := g[0]) (by simp [l0])
        have lw := G.len _ (List.getElem_mem l0)
        refine ⟨_, rfl, a, _, 0, .ref b0, rfl, rfl, SqT.of ha, atI_nat (j := 0) (by rw [List.getElem?_map, hb0]; rfl), b0, _, rfl, .inr (SqT.of hr0), _, _, rfl, rfl, ?_⟩
        rw [List.length_map, lw]
        dsimp only
        by_cases c1 : cc < (w' : Int)
        · rw [decide_eq_true c1]
          obtain ⟨xs, e1, e2, e3⟩ := num_in G ⟨r0, r1, c0, c1⟩
          obtain ⟨bs', b, q1, q2, q3, q4⟩ := hA.ix e1 e2
          have er : ((r.toNat : Nat) : Int) = r := by omega
          have ec : ((cc.toNat : Nat) : Int) = cc := by omega
          rw [er] at q2
          rw [ec] at q4
          refine ⟨_, rfl, _, rfl, iteT ⟨_, rfl, _, rfl, a, _, r, _, rfl, rfl, SqT.of q1, q2, _, rfl, b, _, cc, _, rfl, rfl, SqT.of q3, q4, ?_⟩⟩
          have := fin true (decide_eq_true ⟨r0, r1, c0, c1⟩).symm
          have en : numAt g w' r cc = atG g (r, cc) := by unfold Grd.numAt; rw [if_pos ⟨r0, r1, c0, c1⟩]
          rw [en] at this
          exact this
        · rw [decide_eq_false c1]
          exact ⟨_, rfl, _, rfl, iteF ⟨_, rfl, no fun z => c1 z.2.2.2⟩⟩
      · exact ⟨_, rfl, _, rfl, iteF ⟨_, rfl, no fun z => c0 z.2.2.1⟩⟩
    · exact ⟨_, rfl, _, rfl, iteF ⟨_, rfl, no fun z => r1 z.2.1⟩⟩
  · exact ⟨_, rfl, iteF ⟨_, rfl, _, rfl, iteF ⟨_, rfl, no fun z => r0 z.1⟩⟩⟩
end
end M42

set_option Elab.async false
set_option linter.all false
set_option maxRecDepth 100000
set_option maxHeartbeats 4000000
namespace M42
open PySem L2 PyProof.Rows Grd
/-- known, and no place -/
def Bad (H : Hp) (v : V) : Prop := Kn H 2 v ∧ placeOf H v = none
theorem Bad.ext {H H' : Hp} {v : V} (h : Bad H v) (e : Ext H H') : Bad H' v := by
  refine ⟨h.1.ext e, ?_⟩
  have h1 := h.1
  have h2 := h.2
  unfold placeOf at h2 ⊢
  cases v with
  | ref a =>
    rcases h1 with ⟨xs, k⟩ | ⟨kvs, k⟩ | ⟨xs, k, _⟩
    · obtain ⟨ys, k'⟩ := e.lst _ _ k
      have : tupOf H' (.ref a) = none := by simp [tupOf, k']
      rw [this]
    · have : tupOf H' (.ref a) = none := by simp [tupOf, e.dct _ _ k]
      rw [this]
    · rw [tupOf_of k] at h2
      rw [tupOf_of (e.tup _ _ k)]
      exact h2
  | _ => rfl
theorem Bad.tup {H : Hp} {a : Addr} {xs : List V} (h : H a = some (.tup xs)) (hl : xs.length ≤ 1000) (hx : ∀ x ∈ xs, Kn H 1 x) (hp : (match some xs with | some [.int r, .int c] => some (r, c) | _ => none : Option (Int × Int)) = none) : Bad H (.ref a) :=
  ⟨.inr (.inr ⟨xs, h, hl, hx⟩), by unfold placeOf; rw [tupOf_of h]; exact hp⟩
theorem Bad.lst {H : Hp} {a : Addr} {xs : List V} (h : H a = some (.lst xs)) : Bad H (.ref a) :=
  ⟨.inl ⟨xs, h⟩, by unfold placeOf; rw [show tupOf H (.ref a) = none by simp [tupOf, h]]⟩
theorem pickM {xs : List V} {i : Int} (h0 : 0 ≤ i) (h1 : i < xs.length) : ∃ v, atI xs i = some v ∧ v ∈ xs := by
  obtain ⟨n, rfl⟩ := Int.eq_ofNat_of_zero_le h0
  have hlt : n < xs.length := by omega
  exact ⟨xs[n], atI_nat (by simp [hlt]), List.getElem_mem hlt⟩
theorem sameP {H : Hp} : ∀ {ps qs : List Addr} {cs : List (Int × Int)}, PlAt H ps cs → PlAt H qs cs → Paired (SameV H 1) (ps.map V.ref) (qs.map V.ref)
  | _, _, _, .nil, .nil => .nil
  | _, _, _, .cons h1 t1, .cons h2 t2 => .cons (.inr ⟨_, _, _, _, rfl, rfl, .inr ⟨h1, h2⟩, by simp, .cons (SameV.int 0 _) (.cons (SameV.int 0 _) .nil)⟩) (sameP t1 t2)
theorem plHead {H : Hp} {q : Addr} {qs : List Addr} : ∀ {cs : List (Int × Int)}, PlAt H (q :: qs) cs → ∃ d : Int × Int, H q = some (.tup [.int d.1, .int d.2])
  | _ :: _, .cons u _ => ⟨_, u⟩
theorem pssq_cons {X : Cx} {st : Stmt} {rest : List Stmt} {t u : TS} (h1 : PSq X st t) (h2 : PSs X rest u) : PSsq X (st :: rest) (tSeq t u) := by unfold PSq at h1; unfold PSsq; exact pss_cons h1 h2
theorem pq_se {X : Cx} {es : List Expr} {te : TE} {t : TA} {a b : Expr} {pos : Pos} (he : PE X (.Subscript a b pos) te) (hr : PAq X es t) : PAq X (.Subscript a b pos :: es) (tCons te t) := by unfold PAq at *; exact pa_s he hr
section
variable {P : Program} {w : World} {K : PySem.W.Frag} {mg : Str → Option Value} {base : Heap}
theorem law_laps {f gS gC gR : Addr} {dS dC dR : FuncData} (aS : At P w K mg base CX0 4 "_law_same" gS dS ["_law_thing", "_law_due"] (spSame 3)) (aC : At P w K mg base CX0 6 "cells_of" gC dC ["mead"] (spGrid pos)) (aR : At P w K mg base CX0 6 "roads_of" gR dR ["mead"] (spGrid road))
    (cdv : Value) (A : Around) (outer : List Env) (s : Shared) (H : Hp) (E : XK) (hr : Room 7 (A.deeper (envOfC "law" (defScope sLaw) s.heap.objs.size f cdv))) :
    ∃ tt, PSs (cxOf CX0 P w K mg base nLaw "law" (defScope sLaw) f cdv A outer s H E).nox laps1 tt ∧ ∀ (sa p a ce ro : Addr) (c tot : Int) (g : Grid) (w' : Nat) (o7 o8 o9 o10 o11 o12 o13 o14 : Option V) (H1 : Hp) (ps rs : List Addr) (De : Ends),
      GridAt H1 a g → Good g w' → H1 ce = some (.lst (ps.map V.ref)) → PlAt H1 ps (gridF pos g) → H1 ro = some (.lst (rs.map V.ref)) → PlAt H1 rs (gridF road g) → ps.length ≤ 100 → rs.length ≤ 100 →
      (∀ x14 H2, Same H1 H2 → De.nx (σL sa p a ce ro c tot o7 o8 o9 o10 o11 o12 o13 x14) H2) → tt De (σL sa p a ce ro c tot o7 o8 o9 o10 o11 o12 o13 o14) H1 := by
  have nd := scLaw.nd
  have r6 : Room 6 _ := hr.mono (by decide)
  refine ⟨_, pss_cons (ps_set (i := 14) nd rfl (Or.inl rfl) (pe_lst (pa_k (pe_call aC.ok r6 rfl aC.nm aC.kp aC.bd .nil pass0 (pa_v (pv 3) pa_nil)) (pa_k (pe_call aR.ok r6 rfl aR.nm aR.kp aR.bd .nil pass0 (pa_v (pv 3) pa_nil)) pa_nil)))) <|
    pss_cons (ps_if (pt_not (pt_val (pe_call aS.ok (hr.mono (by decide)) rfl aS.nm aS.kp aS.bd .nil pass0 (pa_v (pv 14) (pa_l (pe_lst (pa_v (pv 4) (pa_v (pv 5) pa_nil))) pa_nil))))) (pss_one (ps_ret pe_bl)) pss_nil) <|
    pss_cons (ps_expr (pe_bm PySem.F.plainAttrs_list PySem.F.slot_list_append PySem.F.type_list_append mt_append (pe_ix ix_list (pv 14) pe_int (fun _ _ => rfl)) (pa_c pe_int pa_nil))) <|
    pss_one (ps_expr (pe_bm PySem.F.plainAttrs_list PySem.F.slot_list_append PySem.F.type_list_append mt_append (pe_ix ix_list (pv 14) pe_int (fun _ _ => rfl)) (pa_c pe_int pa_nil))), ?_⟩
  intro sa p a ce ro c tot g w' o7 o8 o9 o10 o11 o12 o13 o14 H1 ps rs De hA G hce hP hro hR hp1 hr1 k
  refine ⟨_, rfl, a, g, w', rfl, hA, G, fun H2 l1 qs hl1 s2 hl1' hQ => ?_⟩
  refine ⟨_, rfl, a, g, w', rfl, hA.same s2, G, fun H3 l2 us hl2 s3 hl2' hU => ?_⟩
  refine ⟨by show 2 ≤ sizeLine; decide, fun lt hlt => ?_⟩
  have s4 := same_upd (o := .lst [.ref l1, .ref l2]) hlt
  refine ⟨_, rfl, _, rfl, _, rfl, by show 2 ≤ sizeLine; decide, fun le hle => ?_⟩
  have s5 := same_upd (o := .lst [.ref ce, .ref ro]) hle
  have s25 := (s3.trans s4).trans s5
  have s15 := s2.trans s25
  have s35 := s4.trans s5
  have lq : qs.length = ps.length := (Paired.length hQ).trans (Paired.length hP).symm
  have lu : us.length = rs.length := (Paired.length hU).trans (Paired.length hR).symm
  refine ⟨_, _, rfl, .inr ⟨lt, le, _, _, rfl, rfl, .inl ⟨s5 _ _ upd_same, upd_same⟩, by simp, .cons (.inr ⟨l1, ce, _, _, rfl, rfl, .inl ⟨s25 _ _ hl1', s15 _ _ hce⟩, by rw [List.length_map]; omega, sameP (hQ.same s25) (hP.same s15)⟩) (.cons (.inr ⟨l2, ro, _, _, rfl, rfl, .inl ⟨s35 _ _ hl2', s15 _ _ hro⟩, by rw [List.length_map]; omega, sameP (hU.same s35) (hR.same s15)⟩) .nil)⟩, fun H6 s6 => ⟨_, rfl, iteF ?_⟩⟩
  have hlt6 : H6 lt = some (.lst [.ref l1, .ref l2]) := s6 _ _ (s5 _ _ upd_same)
  have hl16 := s6 _ _ (s25 _ _ hl1')
  have hl26 := s6 _ _ (s35 _ _ hl2')
  have n12 : l2 ≠ l1 := fun z => by rw [z, hl1'] at hl2; cases hl2
  have nt1 : lt ≠ l1 := fun z => by rw [z, s3 _ _ hl1'] at hlt; cases hlt
  have nt2 : lt ≠ l2 := fun z => by rw [z, hl2'] at hlt; cases hlt
  refine ⟨_, rfl, lt, _, 0, .ref l1, rfl, rfl, SqL.of hlt6, atI_nat (j := 0) rfl, .inl ⟨rfl, _, SqL.of hl16⟩, l1, _, _, rfl, rfl, hl16, small1000 (by rw [List.length_map]; omega), ?_⟩
  refine ⟨_, rfl, lt, _, 1, .ref l2, rfl, rfl, SqL.of (by rw [upd_ne nt1]; exact hlt6), atI_nat (j := 1) rfl, .inl ⟨rfl, _, SqL.of (by rw [upd_ne n12]; exact hl26)⟩, l2, _, _, rfl, rfl, by rw [upd_ne n12]; exact hl26, small1000 (by rw [List.length_map]; omega), ?_⟩
  refine k _ _ fun b o e => ?_
  have b1 : b ≠ l1 := ne_of_none e hl1
  have b2 : b ≠ l2 := ne_of_none (s2 _ _ e) hl2
  rw [upd_ne b2, upd_ne b1]
  exact s6 _ _ (s15 _ _ e)
theorem law_tail {f gT gS gC gR gW gD : Addr} {dT dS dC dR dW dD : FuncData} (T : Txt mg) (T2 : Txt2 mg) (aT : At P w K mg base CX0 7 "_law_told" gT dT ["_law_mead_here", "_law_place"] spTold) (aS : At P w K mg base CX0 4 "_law_same" gS dS ["_law_thing", "_law_due"] (spSame 3))
    (aC : At P w K mg base CX0 6 "cells_of" gC dC ["mead"] (spGrid pos)) (aR : At P w K mg base CX0 6 "roads_of" gR dR ["mead"] (spGrid road)) (aW : At P w K mg base CX0 7 "whole_worth" gW dW ["mead"] spWhole) (aD : At P w K mg base CX0 1 "_law_draw" gD dD ["_law_pen_here", "_law_many"] spDraw)
    (cdv : Value) (A : Around) (outer : List Env) (s : Shared) (H : Hp) (E : XK) (hr : Room 7 (A.deeper (envOfC "law" (defScope sLaw) s.heap.objs.size f cdv))) :
    ∃ tt, PSsq (cxOf CX0 P w K mg base nLaw "law" (defScope sLaw) f cdv A outer s H E).nox (cell1.drop 4) tt ∧ ∀ (sa p a ce ro : Addr) (c : Int) (g : Grid) (w' : Nat) (o7 o8 o9 o10 o11 o12 o13 o14 : Option V) (H1 : Hp) (ps rs : List Addr) (De : Ends),
      GridAt H1 a g → Good g w' → PenAt H1 p → H1 ce = some (.lst (ps.map V.ref)) → PlAt H1 ps (gridF pos g) → H1 ro = some (.lst (rs.map V.ref)) → PlAt H1 rs (gridF road g) → ce ≠ p → ro ≠ p → rs.length ≤ 100 →
      (∀ x12 x13 x14 H2, Stp p H1 H2 → De.nx (σL sa p a ce ro c (totG g) o7 o8 o9 o10 o11 x12 x13 x14) H2) → tt De (σL sa p a ce ro c (totG g) o7 o8 o9 o10 o11 o12 o13 o14) H1 := by
  have nd := scLaw.nd
  have r6 : Room 6 _ := hr.mono (by decide)
  obtain ⟨tl, hl, rl⟩ := law_laps (f := f) aS aC aR cdv A outer s H E hr
  refine ⟨_, pssq_cons (ps_setq (i := 12) nd rfl (Or.inl rfl) (pq_tq (tupq (pq_i pq_nil)) (pq_lq (lstq (pq_i (pq_i pq_nil))) (pq_tq (tupq (pq_tf (pq_i pq_nil))) (pq_tq (tupq (pq_i (pq_tf pq_nil))) (pq_n (pq_s (pq_tq (tupq (pq_i (pq_i (pq_i pq_nil)))) (pq_i (pq_tq (tupq (pq_se (pe_ix ix_list (pv 4) pe_int (fun _ _ => rfl)) pq_nil)) pq_nil)))))))))
      (pe_call aD.ok (hr.mono (by decide)) rfl aD.nm aD.kp aD.bd .nil pass0 (pa_v (pv 2) (pa_c pe_int pa_nil))) (fun _ _ => rfl)) <|
    pss_cons (ps_if (PW.pt (pw_or (pt_cmpR op_ne (pe_call aT.ok hr rfl aT.nm aT.kp aT.bd .nil pass0 (pa_v (pv 3) (pa_v (pv 12) pa_nil))) pe_str (nomark _)) (pw_or1 (pt_not (pt_val (pe_call aS.ok (hr.mono (by decide)) rfl aS.nm aS.kp aS.bd .nil pass0 (pa_k (pe_call aW.ok hr rfl aW.nm aW.kp aW.bd .nil pass0 (pa_v (pv 3) pa_nil)) (pa_v (pv 6) pa_nil)))))))) (pss_one (ps_ret pe_bl)) pss_nil) <|
    pss_one (ps_for PassesOwn.never rfl (pi_range1 rfl T2.range (pa_c pe_int pa_nil)) (pg_name (i := 13) nd rfl (Or.inl rfl)) hl), ?_⟩
  intro sa p a ce ro c g w' o7 o8 o9 o10 o11 o12 o13 o14 H1 ps rs De hA G hpen hce hP hro hR nce nro hrl k
  have lps : ps.length = cntG g := (Paired.length hP).trans (len_cells g)
  have c1 := G.c1
  have c10 := G.c10
  obtain ⟨q0, qs, eq0⟩ : ∃ q0 qs, ps = q0 :: qs := List.exists_cons_of_ne_nil (fun z => by rw [z] at lps; simp at lps; omega)
  obtain ⟨d0, hq0⟩ : ∃ d0 : Int × Int, H1 q0 = some (.tup [.int d0.1, .int d0.2]) := by
    rw [eq0] at hP
    exact plHead hP
  refine ⟨by show 1 ≤ sizeLine; decide, fun t1 ht1 => ?_⟩
  have s1 := same_upd (o := .tup [.int 0]) ht1
  refine ⟨by show 2 ≤ sizeLine; decide, fun t2 ht2 => ?_⟩
  have s2 := same_upd (o := .lst [.int 0, .int 0]) ht2
  refine ⟨by show 2 ≤ sizeLine; decide, fun t3 ht3 => ?_⟩
  have s3 := same_upd (o := .tup [.bl true, .int 0]) ht3
  refine ⟨by show 2 ≤ sizeLine; decide, fun t4 ht4 => ?_⟩
  have s4 := same_upd (o := .tup [.int 0, .bl false]) ht4
  refine ⟨by show 3 ≤ sizeLine; decide, fun t5 ht5 => ?_⟩
  have s5 := same_upd (o := .tup [.int 0, .int 0, .int 0]) ht5
  have s15 := (((s1.trans s2).trans s3).trans s4).trans s5
  refine ⟨_, rfl, ce, _, 0, .ref q0, rfl, rfl, SqL.of (s15 _ _ hce), (by rw [eq0]; exact atI_nat (j := 0) rfl), by show 1 ≤ sizeLine; decide, fun t6 ht6 => ?_⟩
  have s6 := same_upd (o := .tup [.ref q0]) ht6
  refine ⟨by show 9 ≤ sizeLine; decide, fun l hl' => ?_⟩
  have s7 := same_upd (o := .lst [.ref t1, .ref t2, .ref t3, .ref t4, .non, .str "00", .ref t5, .int 0, .ref t6]) hl'
  have s17 := (s15.trans s6).trans s7
  have pen7 : PenAt _ p := let ⟨x, y, e⟩ := hpen; ⟨x, y, s17 _ _ e⟩
  refine ⟨_, rfl, p, 9, rfl, pen7, by decide, by decide, fun i H8 i0 i1 st8 => ?_⟩
  have nlp : l ≠ p := fun z => by
    obtain ⟨x, y, e⟩ := hpen
    rw [z, (s15.trans s6) _ _ e] at hl'; cases hl'
  obtain ⟨v, hv, hvm⟩ := pickM (xs := [V.ref t1, .ref t2, .ref t3, .ref t4, .non, .str "00", .ref t5, .int 0, .ref t6]) i0 i1
  refine ⟨l, _, i, v, rfl, rfl, SqL.of (st8.keep l _ nlp upd_same), hv, ?_⟩
  have bad : Bad H8 v := by
    have e8 := st8.ext pen7
    have flat : ∀ {u : V}, (∀ H', KnA H' u) → (∀ H', placeOf H' u = none) → Bad H8 u := fun h1 h2 => ⟨h1 _ 2, h2 _⟩
    have k1 : ∀ {H' : Hp} {u : V}, (∀ H', KnA H' u) → Kn H' 1 u := fun h => h _ 1
    simp only [List.mem_cons, List.not_mem_nil, or_false] at hvm
    rcases hvm with rfl | rfl | rfl | rfl | rfl | rfl | rfl | rfl | rfl
    · refine (Bad.tup (xs := [.int 0]) (s7 _ _ (s6 _ _ (s5 _ _ (s4 _ _ (s3 _ _ (s2 _ _ upd_same)))))) (by simp) (fun x hx => ?_) rfl).ext e8
      rw [List.mem_singleton.mp hx]; exact True.intro
    · exact (Bad.lst (xs := [.int 0, .int 0]) (s7 _ _ (s6 _ _ (s5 _ _ (s4 _ _ (s3 _ _ upd_same)))))).ext e8
    · refine (Bad.tup (xs := [.bl true, .int 0]) (s7 _ _ (s6 _ _ (s5 _ _ (s4 _ _ upd_same)))) (by simp) (fun x hx => ?_) rfl).ext e8
      simp only [List.mem_cons, List.not_mem_nil, or_false] at hx
      rcases hx with rfl | rfl <;> exact True.intro
    · refine (Bad.tup (xs := [.int 0, .bl false]) (s7 _ _ (s6 _ _ (s5 _ _ upd_same))) (by simp) (fun x hx => ?_) rfl).ext e8
      simp only [List.mem_cons, List.not_mem_nil, or_false] at hx
      rcases hx with rfl | rfl <;> exact True.intro
    · exact flat (fun _ => KnA.non) fun _ => rfl
    · exact flat (fun _ => KnA.str _) fun _ => rfl
    · refine (Bad.tup (xs := [.int 0, .int 0, .int 0]) (s7 _ _ (s6 _ _ upd_same)) (by simp) (fun x hx => ?_) rfl).ext e8
      simp only [List.mem_cons, List.not_mem_nil, or_false] at hx
      rcases hx with rfl | rfl | rfl <;> exact True.intro
    · exact flat (fun _ => KnA.int _) fun _ => rfl
    · refine (Bad.tup (xs := [.ref q0]) (s7 _ _ upd_same) (by simp) (fun x hx => ?_) rfl).ext e8
      rw [List.mem_singleton.mp hx]
      exact .inr (.inr ⟨_, (s6.trans s7) _ _ (s15 _ _ hq0), by simp, fun x _ => True.intro⟩)
  have ex8 : Ext H1 H8 := s17.ext.trans (st8.ext pen7)
  have A8 : GridAt H8 a g := hA.ext ex8
  have ce8 : H8 ce = some (.lst (ps.map V.ref)) := st8.keep ce _ nce (s17 _ _ hce)
  have ro8 : H8 ro = some (.lst (rs.map V.ref)) := st8.keep ro _ nro (s17 _ _ hro)
  have P8 := PlAt.ext hP ex8
  have R8 := PlAt.ext hR ex8
  refine ⟨_, rfl, _, rfl, a, g, w', v, rfl, A8, G, bad.1, (fun c2 H' e1 => by rw [bad.2] at e1; cases e1), fun _ H9 s9 => ?_⟩
  refine ⟨rfl, _, rfl, iteNS rfl ?_⟩
  refine ⟨_, rfl, a, g, w', rfl, A8.same s9, G, fun H10 s10 => ?_⟩
  refine ⟨_, rfl, _, _, rfl, SameV.int 3 _, fun H11 s11 => ⟨_, rfl, iteF ?_⟩⟩
  have s8_11 := (s9.trans s10).trans s11
  refine ⟨2, rfl, by decide, by decide, ?_⟩
  refine for_range (lo := 0) (n := 2) (fun i σ H' => (∃ x13 x14, σ = σL sa p a ce ro c (totG g) o7 o8 o9 o10 o11 (some v) x13 x14) ∧ Same H11 H') ⟨⟨_, _, rfl⟩, Same.refl _⟩ ?_ ?_
  · rintro i σ H' hi ⟨⟨x13, x14, rfl⟩, hs⟩
    have sx := s8_11.trans hs
    exact rl sa p a ce ro c _ g w' _ _ _ _ _ _ _ _ H' ps rs _ (A8.same sx) G (sx _ _ ce8) (P8.same sx) (sx _ _ ro8) (R8.same sx) (by omega) hrl fun x14 H2 s2 => ⟨⟨_, _, rfl⟩, hs.trans s2⟩
  · rintro σ H' ⟨⟨x13, x14, rfl⟩, hs⟩
    refine k _ _ _ H' ?_
    have pen1 : Stp p H1 _ := ⟨pen7, fun b o _ e => s17 _ _ e⟩
    exact ((pen1.trans st8).same s8_11).same hs
end
end M42

set_option Elab.async false
set_option linter.all false
set_option maxRecDepth 100000
set_option maxHeartbeats 4000000
namespace M42
open PySem L2 PyProof.Rows Grd
theorem cutV_mem {xs : List V} {lo hi : Option Int} {x : V} (h : x ∈ cutV xs lo hi) : x ∈ xs := List.mem_of_mem_drop (List.mem_of_mem_take h)
section
variable {P : Program} {w : World} {K : PySem.W.Frag} {mg : Str → Option Value} {base : Heap}
theorem ok_law {f gE gP gM gL gT gS gC gR gW gD : Addr} {fd dE dP dM dL dT dS dC dR dW dD : FuncData} (F : Fun K "law" "law" sLaw f fd) (T : Txt mg) (T2 : Txt2 mg) (aE : At P w K mg base CX0 1 "_law_cell" gE dE ["_law_script", "_law_k"] (spCell K)) (aP : At P w K mg base CX0 1 "_law_pen" gP dP ["_law_cell_here"] spPen)
    (aM : At P w K mg base CX0 2 "_law_mead" gM dM ["_law_pen_here", "_law_most"] spMeadL) (aL : At P w K mg base CX0 1 "_law_cells" gL dL ["_law_mead_here"] (spGrid pos)) (aT : At P w K mg base CX0 7 "_law_told" gT dT ["_law_mead_here", "_law_place"] spTold) (aS : At P w K mg base CX0 4 "_law_same" gS dS ["_law_thing", "_law_due"] (spSame 3))
    (aC : At P w K mg base CX0 6 "cells_of" gC dC ["mead"] (spGrid pos)) (aR : At P w K mg base CX0 6 "roads_of" gR dR ["mead"] (spGrid road)) (aW : At P w K mg base CX0 7 "whole_worth" gW dW ["mead"] spWhole) (aD : At P w K mg base CX0 1 "_law_draw" gD dD ["_law_pen_here", "_law_many"] spDraw) : FnOk P w K mg base CX0 8 f fd ["_law_script"] (spLaw K) := by
  refine F.ok scLaw (fun vs H Q E h => ?_) (fun cdv A outer s H vs Q E hr h => ?_)
  · obtain ⟨a, ns, rfl, _⟩ := h; rfl
  · obtain ⟨a, ns, rfl, hS, hlen, q⟩ := h
    have nd := scLaw.nd
    have r1 : Room 1 _ := hr.mono (by decide)
    have r2 : Room 2 _ := hr.mono (by decide)
    obtain ⟨tc, hcol, rcol⟩ := law_col (f := f) T T2 aT aS cdv A outer s H E hr
    obtain ⟨tl, htail, rtail⟩ := law_tail (f := f) T T2 aT aS aC aR aW aD cdv A outer s H E hr
    refine ⟨_, pss_cons (ps_for PassesOwn.never rfl (pi_list (pe_op op_cat (pe_lst (pa_k (pe_call aE.ok r1 rfl aE.nm aE.kp aE.bd .nil pass0 (pa_v (pv 0) (pa_c pe_int pa_nil))) pa_nil)) (pe_slice sl_list (pv 0) (po_some pe_int) (po_some pe_int)))) (pg_name (i := 1) nd rfl (Or.inl rfl))
      (pss_cons (ps_set (i := 2) nd rfl (Or.inl rfl) (pe_call aP.ok r1 rfl aP.nm aP.kp aP.bd .nil pass0 (pa_v (pv 1) pa_nil))) <|
       pss_cons (ps_set (i := 3) nd rfl (Or.inl rfl) (pe_call aM.ok r2 rfl aM.nm aM.kp aM.bd .nil pass0 (pa_v (pv 2) (pa_c pe_int pa_nil)))) <|
       pss_cons (ps_par3 (i := 4) (j := 5) (k := 6) rfl nd rfl rfl rfl (by decide) (by decide) (by decide) rfl rfl rfl (pa_k (pe_call aL.ok r1 rfl aL.nm aL.kp aL.bd .nil pass0 (pa_v (pv 3) pa_nil)) (pa_l (pe_lst pa_nil) (pa_c pe_int pa_nil))) rfl) <|
       pss_cons2q (ps_for PassesOwn.never rfl (pi_range2 rfl T2.range (pa_u (pe_un un_neg pe_int) (pa_c pe_int pa_nil))) (pg_name (i := 7) nd rfl (Or.inl rfl))
         (pss_one (ps_for PassesOwn.never rfl (pi_range2 rfl T2.range (pa_u (pe_un un_neg pe_int) (pa_c pe_int pa_nil))) (pg_name (i := 8) nd rfl (Or.inl rfl)) hcol))) htail)) <|
      pss_one (ps_ret pe_bl), ?_⟩
    refine ⟨_, rfl, a, ns, 0, rfl, hS, by decide, fun c0 => ?_⟩
    refine ⟨by show 1 ≤ sizeLine; decide, fun l0 hl0 => ?_⟩
    have s0 := same_upd (o := .lst [.int c0]) hl0
    refine ⟨_, rfl, _, rfl, _, rfl, a, _, rfl, s0.seq hS, fun l1 hl1 => ?_⟩
    have s1 := same_upd (o := .lst (cutV (ns.map V.int) (some 1) (some 4))) hl1
    have hcl := cutV_length (ns.map V.int) (some 1) (some 4)
    rw [List.length_map] at hcl
    refine ⟨l0, l1, _, _, rfl, rfl, s1 _ _ upd_same, upd_same, by rw [sizeLine_eq]; show 1 + _ ≤ _; omega, fun lc hlc => ?_⟩
    refine ⟨lc, rfl, ⟨_, SqL.of upd_same⟩, ?_⟩
    refine for_list (K := K) (a := lc) (xs := [.int c0] ++ cutV (ns.map V.int) (some 1) (some 4)) (fun i σ H' => (∃ o1 o2 o3 o4 o5 o6 o7 o8 o9 o10 o11 o12 o13 o14, σ = [some (.ref a), o1, o2, o3, o4, o5, o6, o7, o8, o9, o10, o11, o12, o13, o14]) ∧ Same (upd (upd (upd H l0 (.lst [.int c0])) l1 (.lst (cutV (ns.map V.int) (some 1) (some 4)))) lc (.lst ([.int c0] ++ cutV (ns.map V.int) (some 1) (some 4)))) H')
      ⟨⟨_, _, _, _, _, _, _, _, _, _, _, _, _, _, rfl⟩, Same.refl _⟩ (fun i σ H' _ h => SqL.of (h.2 _ _ upd_same)) ?_ ?_
    · rintro i y σ Ht hi ⟨⟨o1, o2, o3, o4, o5, o6, o7, o8, o9, o10, o11, o12, o13, o14, rfl⟩, hs⟩
      obtain ⟨c, rfl⟩ : ∃ c, y = V.int c := by
        rcases List.mem_append.mp (List.mem_of_getElem? hi) with z | z
        · exact ⟨c0, List.mem_singleton.mp z⟩
        · obtain ⟨c, _, e⟩ := List.mem_map.mp (cutV_mem z)
          exact ⟨c, e.symm⟩
      refine ⟨_, rfl, c, rfl, fun p H1 hp0 sp pen => ?_⟩
      refine ⟨_, rfl, p, rfl, pen, fun m g w' H2 st2 hA G => ?_⟩
      refine ⟨_, rfl, m, g, w', rfl, hA, G, fun H3 ce ps hce0 s3 hce hP => ?_⟩
      refine ⟨by show 0 ≤ sizeLine; decide, fun ro hro => ?_⟩
      refine ⟨_, _, _, rfl, ?_⟩
      have s4 := same_upd (o := .lst []) hro
      have s34 := s3.trans s4
      have nce : ce ≠ p := fun z => by
        obtain ⟨x, y, e⟩ := st2.pen
        rw [z, e] at hce0; cases hce0
      have nro : ro ≠ p := fun z => by
        obtain ⟨x, y, e⟩ := st2.pen
        rw [z, s3 _ _ e] at hro; cases hro
      have ncr : ce ≠ ro := fun z => by rw [← z, hce] at hro; cases hro
      have e7 : g.take (7 - 1) = g := grid_all G
      refine ⟨_, rfl, -1, 6, rfl, ⟨by decide, by decide, by decide, by decide⟩, ?_⟩
      refine for_range (lo := -1) (n := 7) (fun i σ H' => (∃ o7 o8 o9 o10 o11 o12 o13 o14, σ = σL a p m ce ro c (totG (g.take (i - 1))) o7 o8 o9 o10 o11 o12 o13 o14) ∧ Kp ro (upd H3 ro (.lst [])) H' ∧ ∃ rs : List Addr, H' ro = some (.lst (rs.map V.ref)) ∧ PlAt H' rs (gridF road (g.take (i - 1))) ∧ rs.length ≤ 9 * i)
        ⟨⟨_, _, _, _, _, _, _, _, rfl⟩, ⟨fun b o _ e => e, ⟨_, upd_same⟩, ⟨_, upd_same⟩⟩, [], upd_same, .nil, Nat.zero_le _⟩ ?_ ?_
      · rintro i σ H5 hi7 ⟨⟨u7, u8, u9, u10, u11, u12, u13, u14, rfl⟩, kp, rs, hro5, hR, hrl⟩
        have er : (-1 : Int) + (i : Int) = (i : Int) - 1 := by omega
        refine ⟨_, rfl, -1, 8, rfl, ⟨by decide, by decide, by decide, by decide⟩, ?_⟩
        refine for_range (lo := -1) (n := 9) (fun j σ H' => (∃ o8 o9 o10 o11 o12 o13 o14, σ = σL a p m ce ro c (totG (g.take (i - 1)) + totR ((rowAt g ((i : Int) - 1)).take (j - 1))) (some (.int (-1 + (i : Int)))) o8 o9 o10 o11 o12 o13 o14) ∧ Kp ro (upd H3 ro (.lst [])) H' ∧ ∃ rs : List Addr, H' ro = some (.lst (rs.map V.ref)) ∧ PlAt H' rs (gridF road (g.take (i - 1)) ++ rowF road ((i : Int) - 1) ((rowAt g ((i : Int) - 1)).take (j - 1))) ∧ rs.length ≤ 9 * i + j)
          ⟨⟨u8, u9, u10, u11, u12, u13, u14, by simp [totR]⟩, kp, rs, hro5, by simpa [rowF] using hR, by omega⟩ ?_ ?_
        · rintro j σ H6 hj9 ⟨⟨v8, v9, v10, v11, v12, v13, v14, rfl⟩, kp6, rs6, hro6, hR6, hrl6⟩
          have ec : (-1 : Int) + (j : Int) = (j : Int) - 1 := by omega
          obtain ⟨e1, e2⟩ := step_col G road rfl ((i : Int) - 1) j
          refine rcol a p m ce ro c _ (-1 + (i : Int)) (-1 + (j : Int)) g w' v9 v10 v11 v12 v13 v14 H6 rs6 _ _ ((hA.same s34).ext kp6.ext) G hro6 hR6 (by omega) fun x9 x10 x11 H7 rs7 k1 k2 k3 k4 => ?_
          rw [er, ec] at k3 ⊢
          refine ⟨⟨some (.int ((j : Int) - 1)), x9, x10, x11, v12, v13, v14, ?_⟩, kp6.trans k1, rs7, k2, ?_, by omega⟩
          · rw [e2, ← Int.add_assoc]
          · rw [e1, ← List.append_assoc]; exact k3
        · rintro σ H6 ⟨⟨v8, v9, v10, v11, v12, v13, v14, rfl⟩, kp6, rs6, hro6, hR6, hrl6⟩
          obtain ⟨e1, e2⟩ := step_row g road i
          rw [rowAt_all G] at hR6
          refine ⟨⟨some (.int (-1 + (i : Int))), v8, v9, v10, v11, v12, v13, v14, ?_⟩, kp6, rs6, hro6, ?_, by omega⟩
          · rw [rowAt_all G, e2]
          · rw [e1]; exact hR6
      · rintro σ H5 ⟨⟨u7, u8, u9, u10, u11, u12, u13, u14, rfl⟩, kp, rs, hro5, hR, hrl⟩
        rw [e7] at hR ⊢
        have exA := s34.ext.trans kp.ext
        have pen5 : PenAt H5 p := by
          obtain ⟨x, y, e⟩ := st2.pen
          exact ⟨x, y, kp.keep p _ nro.symm (s34 _ _ e)⟩
        refine rtail a p m ce ro c g w' u7 u8 u9 u10 u11 u12 u13 u14 H5 ps rs _ (hA.ext exA) G pen5 (kp.keep ce _ ncr (s4 _ _ hce)) (PlAt.ext hP (s4.ext.trans kp.ext)) hro5 hR nce nro (by omega) fun x12 x13 x14 H8 st8 => ?_
        refine ⟨⟨_, _, _, _, _, _, _, _, _, _, _, _, _, _, rfl⟩, fun b o e => ?_⟩
        have e0 := hs b o e
        have bp : b ≠ p := ne_of_none e0 hp0
        have e3 := s3 _ _ (st2.keep b o bp (sp _ _ e0))
        have br : b ≠ ro := ne_of_none e3 hro
        exact st8.keep b o bp (kp.keep b o br (s4 _ _ e3))
    · rintro σ H' _
      exact q H'
end
end M42

set_option Elab.async false
set_option linter.all false
set_option maxRecDepth 100000
set_option maxHeartbeats 4000000
namespace M42
open PySem L2 PyProof.Rows Grd
theorem exm_of {K : PySem.W.Frag} {cP cE : Addr} (h1 : PySem.W.subIn K (.ref cE) (.type "BaseException") = some true) (h2 : PySem.W.kitOne K (.ref cP) (.ref cE) = some true) (h3 : (Value.ref cP == Value.ref cE) = false) : PySem.W.exmOne K (.ref cP) (.ref cE) = some true := by
  unfold PySem.W.kitOne at h2
  rw [if_neg (by rw [h3]; decide)] at h2
  unfold PySem.W.exmOne
  rw [h1, if_pos (by decide)]
  exact h2
theorem kit_self {K : PySem.W.Frag} {c : Addr} : PySem.W.kitOne K (.ref c) (.ref c) = some true := by unfold PySem.W.kitOne; rw [if_pos (by simp)]
/-! what the top has written -/
theorem all_mk {l : PySem.W.OpenLaw} {w : World} {K : PySem.W.Frag} {h : Heap} {mg : Str → Option Value} {fa cE cM cP cL : Addr} {f0 f1 f2 f3 f4 f5 f6 f7 f8 f9 f10 f11 f12 f13 f14 f15 f16 f17 f18 f19 f20 f21 : Addr} {od0 an0 od1 an1 od2 an2 od3 an3 od4 an4 od5 an5 od6 an6 od7 an7 od8 an8 od9 an9 od10 an10 od11 an11 od12 an12 od13 an13 od14 an14 od15 an15 od16 an16 od17 an17 od18 an18 od19 an19 od20 an20 od21 an21 : Option Addr} {sl0 sl1 sl2 sl3 sl4 sl5 sl6 sl7 sl8 sl9 sl10 sl11 sl12 sl13 sl14 sl15 sl16 sl17 sl18 sl19 sl20 sl21 : Array (Option Value)} {oc0 kV0 dc0 pm0 cd0 ct0 oc1 kV1 dc1 pm1 cd1 ct1 oc2 kV2 dc2 pm2 cd2 ct2 oc3 kV3 dc3 pm3 cd3 ct3 oc4 kV4 dc4 pm4 cd4 ct4 oc5 kV5 dc5 pm5 cd5 ct5 oc6 kV6 dc6 pm6 cd6 ct6 oc7 kV7 dc7 pm7 cd7 ct7 oc8 kV8 dc8 pm8 cd8 ct8 oc9 kV9 dc9 pm9 cd9 ct9 oc10 kV10 dc10 pm10 cd10 ct10 oc11 kV11 dc11 pm11 cd11 ct11 oc12 kV12 dc12 pm12 cd12 ct12 oc13 kV13 dc13 pm13 cd13 ct13 oc14 kV14 dc14 pm14 cd14 ct14 oc15 kV15 dc15 pm15 cd15 ct15 oc16 kV16 dc16 pm16 cd16 ct16 oc17 kV17 dc17 pm17 cd17 ct17 oc18 kV18 dc18 pm18 cd18 ct18 oc19 kV19 dc19 pm19 cd19 ct19 oc20 kV20 dc20 pm20 cd20 ct20 oc21 kV21 dc21 pm21 cd21 ct21 : Value} {t0 t1 t2 t3 t4 t5 : Tok} (X : K.In h) (G : h.Ns mainGlobals mg) (hfa : mg "law" = some (.ref fa))
    (a0 : PySem.W.nsIn K mainGlobals "is_number" = some (some (.ref f0)))
    (l0 : K.lookup f0 = some ⟨oc0, od0, .func (PySem.W.fnOf "is_number" "is_number" (defArgs sNumber) (defBody sNumber) (defScope sNumber) .none kV0 dc0 pm0 an0 cd0 ct0), sl0⟩)
    (c0 : PySem.W.codeIn K cd0 "is_number" = true)
    (k0 : PySem.W.keepIn K (.ref f0) = true)
    (a1 : PySem.W.nsIn K mainGlobals "is_number_within" = some (some (.ref f1)))
    (l1 : K.lookup f1 = some ⟨oc1, od1, .func (PySem.W.fnOf "is_number_within" "is_number_within" (defArgs sWithin) (defBody sWithin) (defScope sWithin) .none kV1 dc1 pm1 an1 cd1 ct1), sl1⟩)
    (c1 : PySem.W.codeIn K cd1 "is_number_within" = true)
    (k1 : PySem.W.keepIn K (.ref f1) = true)
    (a2 : PySem.W.nsIn K mainGlobals "is_tuple_within" = some (some (.ref f2)))
    (l2 : K.lookup f2 = some ⟨oc2, od2, .func (PySem.W.fnOf "is_tuple_within" "is_tuple_within" (defArgs sTuple) (defBody sTuple) (defScope sTuple) .none kV2 dc2 pm2 an2 cd2 ct2), sl2⟩)
    (c2 : PySem.W.codeIn K cd2 "is_tuple_within" = true)
    (k2 : PySem.W.keepIn K (.ref f2) = true)
    (a3 : PySem.W.nsIn K mainGlobals "is_row" = some (some (.ref f3)))
    (l3 : K.lookup f3 = some ⟨oc3, od3, .func (PySem.W.fnOf "is_row" "is_row" (defArgs sRow) (defBody sRow) (defScope sRow) .none kV3 dc3 pm3 an3 cd3 ct3), sl3⟩)
    (c3 : PySem.W.codeIn K cd3 "is_row" = true)
    (k3 : PySem.W.keepIn K (.ref f3) = true)
    (a4 : PySem.W.nsIn K mainGlobals "is_mead" = some (some (.ref f4)))
    (l4 : K.lookup f4 = some ⟨oc4, od4, .func (PySem.W.fnOf "is_mead" "is_mead" (defArgs sMead) (defBody sMead) (defScope sMead) .none kV4 dc4 pm4 an4 cd4 ct4), sl4⟩)
    (c4 : PySem.W.codeIn K cd4 "is_mead" = true)
    (k4 : PySem.W.keepIn K (.ref f4) = true)
    (a5 : PySem.W.nsIn K mainGlobals "check_mead" = some (some (.ref f5)))
    (l5 : K.lookup f5 = some ⟨oc5, od5, .func (PySem.W.fnOf "check_mead" "check_mead" (defArgs sCheck) (defBody sCheck) (defScope sCheck) .none kV5 dc5 pm5 an5 cd5 ct5), sl5⟩)
    (c5 : PySem.W.codeIn K cd5 "check_mead" = true)
    (k5 : PySem.W.keepIn K (.ref f5) = true)
    (a6 : PySem.W.nsIn K mainGlobals "places_of_cells" = some (some (.ref f6)))
    (l6 : K.lookup f6 = some ⟨oc6, od6, .func (PySem.W.fnOf "places_of_cells" "places_of_cells" (defArgs sPlaces) (defBody sPlaces) (defScope sPlaces) .none kV6 dc6 pm6 an6 cd6 ct6), sl6⟩)
    (c6 : PySem.W.codeIn K cd6 "places_of_cells" = true)
    (k6 : PySem.W.keepIn K (.ref f6) = true)
    (a7 : PySem.W.nsIn K mainGlobals "cells_of" = some (some (.ref f7)))
    (l7 : K.lookup f7 = some ⟨oc7, od7, .func (PySem.W.fnOf "cells_of" "cells_of" (defArgs sCellsOf) (defBody sCellsOf) (defScope sCellsOf) .none kV7 dc7 pm7 an7 cd7 ct7), sl7⟩)
    (c7 : PySem.W.codeIn K cd7 "cells_of" = true)
    (k7 : PySem.W.keepIn K (.ref f7) = true)
    (a8 : PySem.W.nsIn K mainGlobals "roads_of" = some (some (.ref f8)))
    (l8 : K.lookup f8 = some ⟨oc8, od8, .func (PySem.W.fnOf "roads_of" "roads_of" (defArgs sRoadsOf) (defBody sRoadsOf) (defScope sRoadsOf) .none kV8 dc8 pm8 an8 cd8 ct8), sl8⟩)
    (c8 : PySem.W.codeIn K cd8 "roads_of" = true)
    (k8 : PySem.W.keepIn K (.ref f8) = true)
    (a9 : PySem.W.nsIn K mainGlobals "is_cell" = some (some (.ref f9)))
    (l9 : K.lookup f9 = some ⟨oc9, od9, .func (PySem.W.fnOf "is_cell" "is_cell" (defArgs sIsCell) (defBody sIsCell) (defScope sIsCell) .none kV9 dc9 pm9 an9 cd9 ct9), sl9⟩)
    (c9 : PySem.W.codeIn K cd9 "is_cell" = true)
    (k9 : PySem.W.keepIn K (.ref f9) = true)
    (a10 : PySem.W.nsIn K mainGlobals "worth_at" = some (some (.ref f10)))
    (l10 : K.lookup f10 = some ⟨oc10, od10, .func (PySem.W.fnOf "worth_at" "worth_at" (defArgs sWorth) (defBody sWorth) (defScope sWorth) .none kV10 dc10 pm10 an10 cd10 ct10), sl10⟩)
    (c10 : PySem.W.codeIn K cd10 "worth_at" = true)
    (k10 : PySem.W.keepIn K (.ref f10) = true)
    (a11 : PySem.W.nsIn K mainGlobals "whole_worth" = some (some (.ref f11)))
    (l11 : K.lookup f11 = some ⟨oc11, od11, .func (PySem.W.fnOf "whole_worth" "whole_worth" (defArgs sWhole) (defBody sWhole) (defScope sWhole) .none kV11 dc11 pm11 an11 cd11 ct11), sl11⟩)
    (c11 : PySem.W.codeIn K cd11 "whole_worth" = true)
    (k11 : PySem.W.keepIn K (.ref f11) = true)
    (a12 : PySem.W.nsIn K mainGlobals "_law_cell" = some (some (.ref f12)))
    (l12 : K.lookup f12 = some ⟨oc12, od12, .func (PySem.W.fnOf "_law_cell" "_law_cell" (defArgs sCell) (defBody sCell) (defScope sCell) .none kV12 dc12 pm12 an12 cd12 ct12), sl12⟩)
    (c12 : PySem.W.codeIn K cd12 "_law_cell" = true)
    (k12 : PySem.W.keepIn K (.ref f12) = true)
    (a13 : PySem.W.nsIn K mainGlobals "_law_pen" = some (some (.ref f13)))
    (l13 : K.lookup f13 = some ⟨oc13, od13, .func (PySem.W.fnOf "_law_pen" "_law_pen" (defArgs sPen) (defBody sPen) (defScope sPen) .none kV13 dc13 pm13 an13 cd13 ct13), sl13⟩)
    (c13 : PySem.W.codeIn K cd13 "_law_pen" = true)
    (k13 : PySem.W.keepIn K (.ref f13) = true)
    (a14 : PySem.W.nsIn K mainGlobals "_law_draw" = some (some (.ref f14)))
    (l14 : K.lookup f14 = some ⟨oc14, od14, .func (PySem.W.fnOf "_law_draw" "_law_draw" (defArgs sDraw) (defBody sDraw) (defScope sDraw) .none kV14 dc14 pm14 an14 cd14 ct14), sl14⟩)
    (c14 : PySem.W.codeIn K cd14 "_law_draw" = true)
    (k14 : PySem.W.keepIn K (.ref f14) = true)
    (a15 : PySem.W.nsIn K mainGlobals "_law_same" = some (some (.ref f15)))
    (l15 : K.lookup f15 = some ⟨oc15, od15, .func (PySem.W.fnOf "_law_same" "_law_same" (defArgs sSame) (defBody sSame) (defScope sSame) .none kV15 dc15 pm15 an15 cd15 ct15), sl15⟩)
    (c15 : PySem.W.codeIn K cd15 "_law_same" = true)
    (k15 : PySem.W.keepIn K (.ref f15) = true)
    (a16 : PySem.W.nsIn K mainGlobals "_law_mead" = some (some (.ref f16)))
    (l16 : K.lookup f16 = some ⟨oc16, od16, .func (PySem.W.fnOf "_law_mead" "_law_mead" (defArgs sMeadL) (defBody sMeadL) (defScope sMeadL) .none kV16 dc16 pm16 an16 cd16 ct16), sl16⟩)
    (c16 : PySem.W.codeIn K cd16 "_law_mead" = true)
    (k16 : PySem.W.keepIn K (.ref f16) = true)
    (a17 : PySem.W.nsIn K mainGlobals "_law_cells" = some (some (.ref f17)))
    (l17 : K.lookup f17 = some ⟨oc17, od17, .func (PySem.W.fnOf "_law_cells" "_law_cells" (defArgs sLCells) (defBody sLCells) (defScope sLCells) .none kV17 dc17 pm17 an17 cd17 ct17), sl17⟩)
    (c17 : PySem.W.codeIn K cd17 "_law_cells" = true)
    (k17 : PySem.W.keepIn K (.ref f17) = true)
    (a18 : PySem.W.nsIn K mainGlobals "_law_told" = some (some (.ref f18)))
    (l18 : K.lookup f18 = some ⟨oc18, od18, .func (PySem.W.fnOf "_law_told" "_law_told" (defArgs sTold) (defBody sTold) (defScope sTold) .none kV18 dc18 pm18 an18 cd18 ct18), sl18⟩)
    (c18 : PySem.W.codeIn K cd18 "_law_told" = true)
    (k18 : PySem.W.keepIn K (.ref f18) = true)
    (a19 : PySem.W.nsIn K mainGlobals "worth_together" = some (some (.ref f19)))
    (l19 : K.lookup f19 = some ⟨oc19, od19, .func (PySem.W.fnOf "worth_together" "worth_together" (defArgs sWTog) (defBody sWTog) (defScope sWTog) .none kV19 dc19 pm19 an19 cd19 ct19), sl19⟩)
    (c19 : PySem.W.codeIn K cd19 "worth_together" = true)
    (k19 : PySem.W.keepIn K (.ref f19) = true)
    (a20 : PySem.W.nsIn K mainGlobals "is_pair_of_numbers" = some (some (.ref f20)))
    (l20 : K.lookup f20 = some ⟨oc20, od20, .func (PySem.W.fnOf "is_pair_of_numbers" "is_pair_of_numbers" (defArgs sPair) (defBody sPair) (defScope sPair) .none kV20 dc20 pm20 an20 cd20 ct20), sl20⟩)
    (c20 : PySem.W.codeIn K cd20 "is_pair_of_numbers" = true)
    (k20 : PySem.W.keepIn K (.ref f20) = true)
    (a21 : PySem.W.nsIn K mainGlobals "law" = some (some (.ref f21)))
    (l21 : K.lookup f21 = some ⟨oc21, od21, .func (PySem.W.fnOf "law" "law" (defArgs sLaw) (defBody sLaw) (defScope sLaw) .none kV21 dc21 pm21 an21 cd21 ct21), sl21⟩)
    (c21 : PySem.W.codeIn K cd21 "law" = true)
    (k21 : PySem.W.keepIn K (.ref f21) = true)
    (v0 : PySem.W.nsIn K mainGlobals "MOST_ROWS" = some (some (.int 4 t0)))
    (v1 : PySem.W.nsIn K mainGlobals "MOST_COLUMNS" = some (some (.int 6 t1)))
    (v2 : PySem.W.nsIn K mainGlobals "MOST_CELLS" = some (some (.int 10 t2)))
    (v3 : PySem.W.nsIn K mainGlobals "MOST_WORTH" = some (some (.int 99 t3)))
    (v4 : PySem.W.nsIn K mainGlobals "WATER" = some (some (.int (-2) t4)))
    (v5 : PySem.W.nsIn K mainGlobals "ROAD" = some (some (.int (-1) t5)))
    (z0 : PySem.W.nsIn K mainGlobals "isinstance" = some none)
    (z1 : PySem.W.nsIn K mainGlobals "int" = some none)
    (z2 : PySem.W.nsIn K mainGlobals "bool" = some none)
    (z3 : PySem.W.nsIn K mainGlobals "tuple" = some none)
    (z4 : PySem.W.nsIn K mainGlobals "len" = some none)
    (z5 : PySem.W.nsIn K mainGlobals "all" = some none)
    (z6 : PySem.W.nsIn K mainGlobals "enumerate" = some none)
    (z7 : PySem.W.nsIn K mainGlobals "range" = some none)
    (z8 : PySem.W.nsIn K mainGlobals "list" = some none)
    (z9 : PySem.W.nsIn K mainGlobals "zip" = some none)
    (z10 : PySem.W.nsIn K mainGlobals "sum" = some none)
    (z11 : PySem.W.nsIn K mainGlobals "max" = some none)
    (z12 : PySem.W.nsIn K mainGlobals "ValueError" = some none)
    (e0 : PySem.W.nsIn K mainGlobals "MeadError" = some (some (.ref cE)))
    (e1 : PySem.W.nsIn K mainGlobals "NoMead" = some (some (.ref cM)))
    (e2 : PySem.W.nsIn K mainGlobals "NoPlace" = some (some (.ref cP)))
    (e3 : PySem.W.nsIn K mainGlobals "NoLand" = some (some (.ref cL)))
    (x0 : PySem.W.excIn K cP [.type "ValueError", .type "Exception", .type "BaseException", .type "object"] "ValueError.__new__" = true)
    (x1 : PySem.W.subIn K (.ref cE) (.type "BaseException") = some true)
    (x3 : PySem.W.kitOne K (.ref cP) (.ref cM) = some false)
    (x4 : PySem.W.kitOne K (.ref cP) (.ref cL) = some false)
    (x5 : PySem.W.kitOne K (.ref cP) (.type "ValueError") = some true)
    (x6 : PySem.W.kitOne K (.ref cP) (.ref cE) = some true)
    (x7 : (Value.ref cP == Value.ref cE) = false)
    (y1 : PySem.W.findIn K (.ref cP) "__class__" = some (some (.builtin "object.__class__")))
    (y2 : PySem.W.findIn K (.ref cP) "__getattribute__" = some (some (.builtin "BaseException.__getattribute__")))
    (y3 : PySem.W.findIn K (.ref cP) "__getattr__" = some none)
    (y4 : PySem.W.mroIn K cP (.type "object") = some true)
    (y5 : PySem.W.mroIn K cP (.type "BaseException") = some true)
    (y6 : PySem.W.specialIn K (.builtin "object.__class__") "__get__" = some (some (.builtin "getset_descriptor.__get__")))
    (y7 : PySem.W.takesIn K (.builtin "object.__class__") = some true) :
    ∃ fd : FuncData, (∀ (s : Shared) (v : Value), BindsTo s fd ⟨[v], []⟩ [("_law_script", v)]) ∧ ∀ base : Heap, K.In base → base.Ns mainGlobals mg → FnOk l.prog w K mg base CX0 8 fa fd ["_law_script"] (spLaw K) := by
  have e := hfa.symm.trans (PySem.W.mg_of X G a21)
  cases e
  have T : Txt mg := ⟨PySem.W.mg_none_of X G z0, PySem.W.mg_none_of X G z1, PySem.W.mg_none_of X G z2, PySem.W.mg_none_of X G z3, PySem.W.mg_none_of X G z4, PySem.W.mg_none_of X G z5, PySem.W.mg_none_of X G z6, ⟨_, PySem.W.mg_of X G v0⟩, ⟨_, PySem.W.mg_of X G v1⟩, ⟨_, PySem.W.mg_of X G v2⟩, ⟨_, PySem.W.mg_of X G v3⟩, ⟨_, PySem.W.mg_of X G v4⟩⟩
  have T2 : Txt2 mg := ⟨PySem.W.mg_none_of X G z7, PySem.W.mg_none_of X G z8, PySem.W.mg_none_of X G z9, PySem.W.mg_none_of X G z10, PySem.W.mg_none_of X G z11, ⟨_, PySem.W.mg_of X G v5⟩⟩
  have C : Cls K mg cE cM cP cL := ⟨PySem.W.mg_of X G e0, PySem.W.mg_of X G e1, PySem.W.mg_of X G e2, PySem.W.mg_of X G e3, PySem.W.mg_none_of X G z12, ⟨x0, y1, y2, y3, y4, y5, y6, y7⟩, exm_of x1 x6 x7, kit_self, x3, x4, x5⟩
  have F0 := fun_mk (st := sNumber) l0 c0 k0
  have m0 := PySem.W.mg_of X G a0
  have b0 := F0.binds (ps := ["thing"]) fun _ _ _ _ _ _ us hl => match us, hl with | [_], _ => rfl
  have F1 := fun_mk (st := sWithin) l1 c1 k1
  have m1 := PySem.W.mg_of X G a1
  have b1 := F1.binds (ps := ["thing", "least", "most"]) fun _ _ _ _ _ _ us hl => match us, hl with | [_, _, _], _ => rfl
  have F2 := fun_mk (st := sTuple) l2 c2 k2
  have m2 := PySem.W.mg_of X G a2
  have b2 := F2.binds (ps := ["thing", "least", "most"]) fun _ _ _ _ _ _ us hl => match us, hl with | [_, _, _], _ => rfl
  have F3 := fun_mk (st := sRow) l3 c3 k3
  have m3 := PySem.W.mg_of X G a3
  have b3 := F3.binds (ps := ["thing"]) fun _ _ _ _ _ _ us hl => match us, hl with | [_], _ => rfl
  have F4 := fun_mk (st := sMead) l4 c4 k4
  have m4 := PySem.W.mg_of X G a4
  have b4 := F4.binds (ps := ["thing"]) fun _ _ _ _ _ _ us hl => match us, hl with | [_], _ => rfl
  have F5 := fun_mk (st := sCheck) l5 c5 k5
  have m5 := PySem.W.mg_of X G a5
  have b5 := F5.binds (ps := ["mead"]) fun _ _ _ _ _ _ us hl => match us, hl with | [_], _ => rfl
  have F6 := fun_mk (st := sPlaces) l6 c6 k6
  have m6 := PySem.W.mg_of X G a6
  have b6 := F6.binds (ps := ["mead"]) fun _ _ _ _ _ _ us hl => match us, hl with | [_], _ => rfl
  have F7 := fun_mk (st := sCellsOf) l7 c7 k7
  have m7 := PySem.W.mg_of X G a7
  have b7 := F7.binds (ps := ["mead"]) fun _ _ _ _ _ _ us hl => match us, hl with | [_], _ => rfl
  have F8 := fun_mk (st := sRoadsOf) l8 c8 k8
  have m8 := PySem.W.mg_of X G a8
  have b8 := F8.binds (ps := ["mead"]) fun _ _ _ _ _ _ us hl => match us, hl with | [_], _ => rfl
  have F9 := fun_mk (st := sIsCell) l9 c9 k9
  have m9 := PySem.W.mg_of X G a9
  have b9 := F9.binds (ps := ["mead", "thing"]) fun _ _ _ _ _ _ us hl => match us, hl with | [_, _], _ => rfl
  have F10 := fun_mk (st := sWorth) l10 c10 k10
  have m10 := PySem.W.mg_of X G a10
  have b10 := F10.binds (ps := ["mead", "place"]) fun _ _ _ _ _ _ us hl => match us, hl with | [_, _], _ => rfl
  have F11 := fun_mk (st := sWhole) l11 c11 k11
  have m11 := PySem.W.mg_of X G a11
  have b11 := F11.binds (ps := ["mead"]) fun _ _ _ _ _ _ us hl => match us, hl with | [_], _ => rfl
  have F12 := fun_mk (st := sCell) l12 c12 k12
  have m12 := PySem.W.mg_of X G a12
  have b12 := F12.binds (ps := ["_law_script", "_law_k"]) fun _ _ _ _ _ _ us hl => match us, hl with | [_, _], _ => rfl
  have F13 := fun_mk (st := sPen) l13 c13 k13
  have m13 := PySem.W.mg_of X G a13
  have b13 := F13.binds (ps := ["_law_cell_here"]) fun _ _ _ _ _ _ us hl => match us, hl with | [_], _ => rfl
  have F14 := fun_mk (st := sDraw) l14 c14 k14
  have m14 := PySem.W.mg_of X G a14
  have b14 := F14.binds (ps := ["_law_pen_here", "_law_many"]) fun _ _ _ _ _ _ us hl => match us, hl with | [_, _], _ => rfl
  have F15 := fun_mk (st := sSame) l15 c15 k15
  have m15 := PySem.W.mg_of X G a15
  have b15 := F15.binds (ps := ["_law_thing", "_law_due"]) fun _ _ _ _ _ _ us hl => match us, hl with | [_, _], _ => rfl
  have F16 := fun_mk (st := sMeadL) l16 c16 k16
  have m16 := PySem.W.mg_of X G a16
  have b16 := F16.binds (ps := ["_law_pen_here", "_law_most"]) fun _ _ _ _ _ _ us hl => match us, hl with | [_, _], _ => rfl
  have F17 := fun_mk (st := sLCells) l17 c17 k17
  have m17 := PySem.W.mg_of X G a17
  have b17 := F17.binds (ps := ["_law_mead_here"]) fun _ _ _ _ _ _ us hl => match us, hl with | [_], _ => rfl
  have F18 := fun_mk (st := sTold) l18 c18 k18
  have m18 := PySem.W.mg_of X G a18
  have b18 := F18.binds (ps := ["_law_mead_here", "_law_place"]) fun _ _ _ _ _ _ us hl => match us, hl with | [_, _], _ => rfl
  have F19 := fun_mk (st := sWTog) l19 c19 k19
  have m19 := PySem.W.mg_of X G a19
  have b19 := F19.binds (ps := ["mead", "places"]) fun _ _ _ _ _ _ us hl => match us, hl with | [_, _], _ => rfl
  have F20 := fun_mk (st := sPair) l20 c20 k20
  have m20 := PySem.W.mg_of X G a20
  have b20 := F20.binds (ps := ["thing"]) fun _ _ _ _ _ _ us hl => match us, hl with | [_], _ => rfl
  have F21 := fun_mk (st := sLaw) l21 c21 k21
  have m21 := PySem.W.mg_of X G a21
  refine ⟨PySem.W.fnOf "law" "law" (defArgs sLaw) (defBody sLaw) (defScope sLaw) .none kV21 dc21 pm21 an21 cd21 ct21, fun s v => .of_eq rfl, fun base _ _ => ?_⟩
  have gTup : FnOk l.prog w K mg base CX0 1 f2 _ ["thing", "least", "most"] spTuple := ok_tuple F2 T
  have gNum : FnOk l.prog w K mg base CX0 1 f0 _ ["thing"] spNumber := ok_number F0 T
  have gWit : FnOk l.prog w K mg base CX0 2 f1 _ ["thing", "least", "most"] spWithin := ok_within F1 T F0 b0 m0
  have gRow : FnOk l.prog w K mg base CX0 3 f3 _ ["thing"] spRow := ok_row F3 T b2 m2 k2 gTup b1 m1 k1 gWit
  have gPla : FnOk l.prog w K mg base CX0 1 f6 _ ["mead"] spPlaces := ok_places F6 T
  have gMea : FnOk l.prog w K mg base CX0 4 f4 _ ["thing"] spMead := ok_mead F4 T b2 m2 k2 gTup b3 m3 k3 gRow b6 m6 k6 gPla
  have gPG : FnOk l.prog w K mg base CX0 1 f6 _ ["mead"] (spGrid pos) := ok_placesG F6 T
  have gChk : FnOk l.prog w K mg base CX0 5 f5 _ ["mead"] spCheck := ok_check F5 ⟨m4, k4, b4, gMea⟩
  have gCel : FnOk l.prog w K mg base CX0 6 f7 _ ["mead"] (spGrid pos) := ok_cellsOf F7 ⟨m5, k5, b5, gChk⟩ ⟨m6, k6, b6, gPG⟩
  have gRoa : FnOk l.prog w K mg base CX0 6 f8 _ ["mead"] (spGrid road) := ok_roadsOf F8 T T2 ⟨m5, k5, b5, gChk⟩
  have gPai : FnOk l.prog w K mg base CX0 2 f20 _ ["thing"] spPair := ok_pair F20 T ⟨m2, k2, b2, gTup⟩ ⟨m0, k0, b0, gNum⟩
  have gIsC : FnOk l.prog w K mg base CX0 3 f9 _ ["mead", "thing"] spIsCell := ok_isCell F9 ⟨m20, k20, b20, gPai⟩ ⟨m6, k6, b6, gPG⟩
  have gWor : FnOk l.prog w K mg base (CX1 l.prog w) 6 f10 _ ["mead", "place"] (spWorth cP) := ok_worth F10 ⟨m5, k5, b5, gChk⟩ ⟨m9, k9, b9, gIsC⟩ C.mP ⟨C.d.ex⟩
  have gWTo : FnOk l.prog w K mg base CX0 1 f19 _ ["mead", "places"] spWTog := ok_wtog F19 T2
  have gWho : FnOk l.prog w K mg base CX0 7 f11 _ ["mead"] spWhole := ok_whole F11 ⟨m7, k7, b7, gCel⟩ ⟨m19, k19, b19, gWTo⟩
  have gDra : FnOk l.prog w K mg base CX0 1 f14 _ ["_law_pen_here", "_law_many"] spDraw := ok_draw F14 T
  have gSam : FnOk l.prog w K mg base CX0 4 f15 _ ["_law_thing", "_law_due"] (spSame 3) := ok_same F15 T T2 m15 b15 3
  have gMeL : FnOk l.prog w K mg base CX0 2 f16 _ ["_law_pen_here", "_law_most"] spMeadL := ok_meadL F16 T T2 b14 m14 k14 gDra
  have gTol : FnOk l.prog w K mg base CX0 7 f18 _ ["_law_mead_here", "_law_place"] spTold := ok_told F18 T C ⟨m10, k10, b10, gWor⟩
  exact ok_law F21 T T2 ⟨m12, k12, b12, ok_cell F12 T⟩ ⟨m13, k13, b13, ok_pen F13 T⟩ ⟨m16, k16, b16, gMeL⟩ ⟨m17, k17, b17, ok_lcells F17 T⟩ ⟨m18, k18, b18, gTol⟩ ⟨m15, k15, b15, gSam⟩ ⟨m7, k7, b7, gCel⟩ ⟨m8, k8, b8, gRoa⟩ ⟨m11, k11, b11, gWho⟩ ⟨m14, k14, b14, gDra⟩
theorem walk {l : PySem.W.OpenLaw} {q : Program} {loose : List Str} {XP : (Str → Option Value) → Heap → Prop} {YP : World → Heap → Prop} {d : DefRec} {K : Params → PySem.W.Frag} (hn : l.most = some 63) (hdf : d.params.defaults = [])
    (hY : ∀ (w : World) (h : Heap), YP w h → (K w.params).In h)
    (F : ∀ (w : World) (mg : Str → Option Value) (fa : Addr) (h : Heap), (K w.params).In h → h.Ns mainGlobals mg → mg d.name = some (.ref fa) →
      ∃ fd : FuncData, (∀ (s : Shared) (u : Value), BindsTo s fd ⟨[u], []⟩ [("_law_script", u)]) ∧ ∀ base : Heap, (K w.params).In base → base.Ns mainGlobals mg → FnOk l.prog w (K w.params) mg base CX0 8 fa fd ["_law_script"] (spLaw (K w.params))) :
    PySem.W.WalkO q loose XP YP l.row.toRowW d [] (fun f vs => PySem.call f vs) :=
  L2.walk_of (n := 63) (k := 8) (x := "_law_script") (CX := fun _ => CX0) (sp := fun w => spLaw (K w.params)) hn (by decide) hdf ⟨rfl, by decide, by decide⟩ hY F (fun _ _ a ns hl _ hS => ⟨a, ns, rfl, hS, hl, fun _ => rfl⟩) fun _ _ _ _ _ z => z
end M42
open PySem PySem.W PyProof.Rows
set_option maxRecDepth 100000 in
set_option maxHeartbeats 0 in
theorem PySem.Challenge.cw_meadshares_k42_cells_roads_and_worths_holds : PySem.Challenge.rw_meadshares_k42_cells_roads_and_worths.Holds := by
  w_on; o_law; k_head; (case hw => w_witness2)
  k_fill
  refine M42.walk (l := PySem.Challenge.rw_meadshares_k42_cells_roads_and_worths) rfl rfl (fun w h Y => PySem.W.kIn_of Y) ?F
  case F =>
    intro w mg fa h KX G hmg
    refine' M42.all_mk KX G hmg ?a0 ?l0 ?c0 ?k0 ?a1 ?l1 ?c1 ?k1 ?a2 ?l2 ?c2 ?k2 ?a3 ?l3 ?c3 ?k3 ?a4 ?l4 ?c4 ?k4 ?a5 ?l5 ?c5 ?k5 ?a6 ?l6 ?c6 ?k6 ?a7 ?l7 ?c7 ?k7 ?a8 ?l8 ?c8 ?k8 ?a9 ?l9 ?c9 ?k9 ?a10 ?l10 ?c10 ?k10 ?a11 ?l11 ?c11 ?k11 ?a12 ?l12 ?c12 ?k12 ?a13 ?l13 ?c13 ?k13 ?a14 ?l14 ?c14 ?k14 ?a15 ?l15 ?c15 ?k15 ?a16 ?l16 ?c16 ?k16 ?a17 ?l17 ?c17 ?k17 ?a18 ?l18 ?c18 ?k18 ?a19 ?l19 ?c19 ?k19 ?a20 ?l20 ?c20 ?k20 ?a21 ?l21 ?c21 ?k21 ?v0 ?v1 ?v2 ?v3 ?v4 ?v5 ?z0 ?z1 ?z2 ?z3 ?z4 ?z5 ?z6 ?z7 ?z8 ?z9 ?z10 ?z11 ?z12 ?e0 ?e1 ?e2 ?e3 ?x0 ?x1 ?x3 ?x4 ?x5 ?x6 ?x7 ?y1 ?y2 ?y3 ?y4 ?y5 ?y6 ?y7
    (case a0 => k_is)
    (case l0 => k_is)
    (case c0 => k_is)
    (case k0 => k_is)
    (case a1 => k_is)
    (case l1 => k_is)
    (case c1 => k_is)
    (case k1 => k_is)
    (case a2 => k_is)
    (case l2 => k_is)
    (case c2 => k_is)
    (case k2 => k_is)
    (case a3 => k_is)
    (case l3 => k_is)
    (case c3 => k_is)
    (case k3 => k_is)
    (case a4 => k_is)
    (case l4 => k_is)
    (case c4 => k_is)
    (case k4 => k_is)
    (case a5 => k_is)
    (case l5 => k_is)
    (case c5 => k_is)
    (case k5 => k_is)
    (case a6 => k_is)
    (case l6 => k_is)
    (case c6 => k_is)
    (case k6 => k_is)
    (case a7 => k_is)
    (case l7 => k_is)
    (case c7 => k_is)
    (case k7 => k_is)
    (case a8 => k_is)
    (case l8 => k_is)
    (case c8 => k_is)
    (case k8 => k_is)
    (case a9 => k_is)
    (case l9 => k_is)
    (case c9 => k_is)
    (case k9 => k_is)
    (case a10 => k_is)
    (case l10 => k_is)
    (case c10 => k_is)
    (case k10 => k_is)
    (case a11 => k_is)
    (case l11 => k_is)
    (case c11 => k_is)
    (case k11 => k_is)
    (case a12 => k_is)
    (case l12 => k_is)
    (case c12 => k_is)
    (case k12 => k_is)
    (case a13 => k_is)
    (case l13 => k_is)
    (case c13 => k_is)
    (case k13 => k_is)
    (case a14 => k_is)
    (case l14 => k_is)
    (case c14 => k_is)
    (case k14 => k_is)
    (case a15 => k_is)
    (case l15 => k_is)
    (case c15 => k_is)
    (case k15 => k_is)
    (case a16 => k_is)
    (case l16 => k_is)
    (case c16 => k_is)
    (case k16 => k_is)
    (case a17 => k_is)
    (case l17 => k_is)
    (case c17 => k_is)
    (case k17 => k_is)
    (case a18 => k_is)
    (case l18 => k_is)
    (case c18 => k_is)
    (case k18 => k_is)
    (case a19 => k_is)
    (case l19 => k_is)
    (case c19 => k_is)
    (case k19 => k_is)
    (case a20 => k_is)
    (case l20 => k_is)
    (case c20 => k_is)
    (case k20 => k_is)
    (case a21 => k_is)
    (case l21 => k_is)
    (case c21 => k_is)
    (case k21 => k_is)
    (case v0 => k_is)
    (case v1 => k_is)
    (case v2 => k_is)
    (case v3 => k_is)
    (case v4 => k_is)
    (case v5 => k_is)
    (case z0 => k_is)
    (case z1 => k_is)
    (case z2 => k_is)
    (case z3 => k_is)
    (case z4 => k_is)
    (case z5 => k_is)
    (case z6 => k_is)
    (case z7 => k_is)
    (case z8 => k_is)
    (case z9 => k_is)
    (case z10 => k_is)
    (case z11 => k_is)
    (case z12 => k_is)
    (case e0 => k_is)
    (case e1 => k_is)
    (case e2 => k_is)
    (case e3 => k_is)
    (case x0 => k_exc)
    (case x1 => k_is)
    (case x3 => kit_is)
    (case x4 => kit_is)
    (case x5 => kit_is)
    (case x6 => kit_is)
    (case x7 => first | rfl | decide)
    (case y1 => k_is)
    (case y2 => k_is)
    (case y3 => k_is)
    (case y4 => k_is)
    (case y5 => k_is)
    (case y6 => k_is)
    (case y7 => k_is)

