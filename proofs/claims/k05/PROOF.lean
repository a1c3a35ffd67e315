import PyProof.Rows.All
import Wide.All
import OpenK.AllK
import Wide.FinOn
import Lean
import PyProof.EqAt
import PyProof.EqKinds
import PyProof.TupleCall
import PySem.Challenge.RW_weighwalk_k05_sums_and_products_go_toget
set_option Elab.async false
set_option linter.all false
set_option maxRecDepth 100000
/-! THE HAND LAYER, for ints, bools, texts, own classes, LISTS and tuples (index, slices, in, append, pop ..), calls, loops. Paste it whole ahead of your own text; what your proof does not reach may be deleted. -/
namespace L2
open PySem PySem.Spec PyProof.Rows

/-- a key: an int or a str -/
abbrev Key := Sum Int Str
def keyIs : Key → Value → Bool
  | .inl k, v => Value.isInt k v
  | .inr x, v => Value.isStrOf x v
def keyH (w : World) : Key → Int
  | .inl k => hashInt k
  | .inr x => hashStr w x
theorem keyIs_shape : ∀ {k : Key} {v : Value}, keyIs k v = true → (∃ i t, k = Sum.inl i ∧ v = Value.int i t) ∨ (∃ x t, k = Sum.inr x ∧ v = Value.str x t)
  | .inl i, v, h => by
    obtain ⟨t, e⟩ := Value.isInt_shape (k := i) (v := v) h
    exact .inl ⟨i, t, rfl, e⟩
  | .inr x, v, h => by
    obtain ⟨t, e⟩ := Value.isStrOf_shape (x := x) (v := v) h
    exact .inr ⟨x, t, rfl, e⟩
theorem keyIs_int (i : Int) (t : Tok) : keyIs (.inl i) (.int i t) = true := by simp [keyIs, Value.isInt]
theorem keyIs_str (x : Str) (t : Tok) : keyIs (.inr x) (.str x t) = true := by simp [keyIs, Value.isStrOf]
theorem key_ll (a b : Int) : decide ((Sum.inl a : Key) = Sum.inl b) = (a == b) := by
  by_cases e : a = b
  · subst e; simp
  · have h : ¬ (Sum.inl a : Key) = Sum.inl b := fun q => e (Sum.inl.inj q)
    rw [decide_eq_false h]
    exact (beq_eq_false_iff_ne.mpr e).symm
theorem key_rr (a b : Str) : decide ((Sum.inr a : Key) = Sum.inr b) = decide (a = b) := by
  by_cases e : a = b
  · subst e; simp
  · have h : ¬ (Sum.inr a : Key) = Sum.inr b := fun q => e (Sum.inr.inj q)
    rw [decide_eq_false h, decide_eq_false e]
theorem key_lr (a : Int) (b : Str) : decide ((Sum.inl a : Key) = Sum.inr b) = false := decide_eq_false (fun q => nomatch q)
theorem key_rl (a : Str) (b : Int) : decide ((Sum.inr a : Key) = Sum.inl b) = false := decide_eq_false (fun q => nomatch q)

def mixKind (prog : Program) (w : World) : PySem.KeyKind prog w Key where
  is := keyIs
  hash := keyH w
  inj := fun v a b ha hb => by
    rcases keyIs_shape ha with ⟨i, t, rfl, rfl⟩ | ⟨x, t, rfl, rfl⟩
    · rcases keyIs_shape hb with ⟨j, u, rfl, e⟩ | ⟨y, u, rfl, e⟩
      · injection e with e1 _; rw [e1]
      · exact nomatch e
    · rcases keyIs_shape hb with ⟨j, u, rfl, e⟩ | ⟨y, u, rfl, e⟩
      · exact nomatch e
      · injection e with e1 _; rw [e1]
  byValue := fun k v h => by
    rcases keyIs_shape h with ⟨i, t, rfl, rfl⟩ | ⟨x, t, rfl, rfl⟩ <;> rfl
  pyHash := fun hv h => by
    rcases keyIs_shape hv with ⟨i, t, rfl, rfl⟩ | ⟨x, t, rfl, rfl⟩
    · exact wpAny_pyHash_int h
    · exact wpAny_pyHash_str h
  eqBool := fun hu hv h => by
    rcases keyIs_shape hu with ⟨i, t, rfl, rfl⟩ | ⟨x, t, rfl, rfl⟩
    · rcases keyIs_shape hv with ⟨j, u, rfl, rfl⟩ | ⟨y, u, rfl, rfl⟩
      · rw [key_ll] at h; exact wpAny_eqBool_int h
      · rw [key_lr] at h; exact SeqAt.EqAt.int_str i t y u _ _ _ _ h
    · rcases keyIs_shape hv with ⟨j, u, rfl, rfl⟩ | ⟨y, u, rfl, rfl⟩
      · rw [key_rl] at h; exact SeqAt.EqAt.str_int x t j u _ _ _ _ h
      · rw [key_rr] at h; exact wpAny_eqBool_str h
  «strs» := fun k x t v h => by
    rcases keyIs_shape h with ⟨i, u, rfl, e⟩ | ⟨y, u, rfl, e⟩
    · exact nomatch e
    · injection e with e1 _
      subst e1
      cases v <;> rfl

theorem mixKind_is (prog : Program) (w : World) (k : Key) (v : Value) : (mixKind prog w).is k v = keyIs k v := rfl
theorem mixKind_int (prog : Program) (w : World) (i : Int) (t : Tok) : (mixKind prog w).is (.inl i) (.int i t) = true := keyIs_int i t
theorem mixKind_str (prog : Program) (w : World) (x : Str) (t : Tok) : (mixKind prog w).is (.inr x) (.str x t) = true := keyIs_str x t
end L2

namespace L2
open PySem PySem.Spec PyProof.Rows

/-- a value, without the heap -/
inductive V where
  | non | bl (b : Bool) | int (i : Int) | str (x : Str) | byt (b : Array UInt8) | flt (b : UInt64) | ref (a : Addr) | ty (n : String)
  deriving DecidableEq

def RelV : V → Value → Prop
  | .non, u => u = Value.none
  | .bl b, u => u = Value.bool b
  | .int i, u => ∃ t, u = Value.int i t
  | .str x, u => ∃ t, u = Value.str x t
  | .byt b, u => ∃ t, u = Value.bytes b t
  | .flt b, u => ∃ t, u = Value.float b t
  | .ref a, u => u = Value.ref a
  | .ty n, u => u = Value.type n

abbrev Vals : List V → List Value → Prop := Paired RelV
theorem Vals.length {xs : List V} {us : List Value} (r : Vals xs us) : xs.length = us.length := Paired.length r
theorem Vals.get : ∀ {xs : List V} {us : List Value} {i : Nat} {x : V}, Vals xs us → xs[i]? = some x → ∃ u, us[i]? = some u ∧ RelV x u
  | _, _, _, _, .nil, e => by simp at e
  | _, _, 0, _, .cons r _, e => by simp at e; subst e; exact ⟨_, rfl, r⟩
  | _, _, i + 1, x, .cons _ t, e => by
    obtain ⟨u, h1, h2⟩ := Vals.get (i := i) (x := x) t (by simpa using e)
    exact ⟨u, by simpa using h1, h2⟩
theorem Vals.set {x : V} {u : Value} (r : RelV x u) : ∀ {xs : List V} {us : List Value} (i : Nat), Vals xs us → Vals (xs.set i x) (us.set i u)
  | _, _, _, .nil => .nil
  | _, _, 0, .cons _ t => .cons r t
  | _, _, i + 1, .cons q t => .cons q (Vals.set r i t)
theorem Vals.append : ∀ {xs ys : List V} {us ws : List Value}, Vals xs us → Vals ys ws → Vals (xs ++ ys) (us ++ ws)
  | _, _, _, _, .nil, s => s
  | _, _, _, _, .cons r t, s => .cons r (Vals.append t s)
theorem Vals.take : ∀ {xs : List V} {us : List Value} (n : Nat), Vals xs us → Vals (xs.take n) (us.take n)
  | _, _, 0, _ => .nil
  | _, _, _ + 1, .nil => .nil
  | _, _, n + 1, .cons r t => .cons r (Vals.take n t)
theorem Vals.drop : ∀ {xs : List V} {us : List Value} (n : Nat), Vals xs us → Vals (xs.drop n) (us.drop n)
  | _, _, 0, r => r
  | _, _, _ + 1, .nil => .nil
  | _, _, n + 1, .cons _ t => Vals.drop n t
theorem Vals.none_of : ∀ {xs : List V} {us : List Value} {i : Nat}, Vals xs us → xs[i]? = none → us[i]? = none := fun {xs us i} r e => by
  have h1 := r.length
  have h2 : xs.length ≤ i := List.getElem?_eq_none_iff.mp e
  exact List.getElem?_eq_none_iff.mpr (by omega)

def RelO : Option V → Option Value → Prop
  | some v, some u => RelV v u
  | none, none => True
  | _, _ => False
def KV {κ : Type} : List (κ × V) → List (κ × Value) → Prop := Paired fun (p : κ × V) (q : κ × Value) => p.1 = q.1 ∧ RelV p.2 q.2

/-- a key of a dict (00_mix): an int or a text -/
def kV : Key → V
  | .inl i => .int i
  | .inr x => .str x

/-- what stands at a tracked address -/
inductive HO where
  /-- a list -/
  | lst (xs : List V)
  /-- a tuple (never changes) -/
  | tup (xs : List V)
  /-- a dict whose keys are ints and texts; one whose keys are tuples of ints and texts (the empty one is both) -/
  | dK (kvs : List (Key × V)) | dT (kvs : List (List Key × V))
  /-- a set of ints: its members, its size -/
  | set (S : Int → Bool) (n : Nat)
  /-- an instance of the class at C, its dict at dx, its attributes -/
  | ins (C dx : Addr) (fs : List (Str × V))
  /-- the dict of the instance at x -/
  | own (x : Addr)
  /-- the dict of an exception -/
  | xd (fs : List (Str × V))
  /-- a bound method, f of x -/
  | met (f x : Addr)
  /-- a range object lo, lo + 1, .. below hi -/
  | rng (lo hi : Int)
  /-- a thing that is known to the object (the script; a dict while a loop walks it): read, never written while it is so -/
  | frz (o : Obj) (u : HO)
  /-- a code object's table -/
  | tbl (ps : Array Value)
  /-- any other thing, by what is true of its one object (a def of one's own: SetO a S n := HO.ext fun h => ..) -/
  | ext (φ : Heap → Prop)

abbrev Hp := Addr → Option HO
def upd (H : Hp) (a : Addr) (o : HO) : Hp := fun b => if b = a then some o else H b
theorem upd_same {H : Hp} {a : Addr} {o : HO} : upd H a o a = some o := by unfold upd; rw [if_pos rfl]
theorem upd_ne {H : Hp} {a b : Addr} {o : HO} (h : b ≠ a) : upd H a o b = H b := by unfold upd; rw [if_neg h]
theorem upd_upd {H : Hp} {a : Addr} {o u : HO} : upd (upd H a o) a u = upd H a u := by
  funext b; unfold upd; split <;> rfl
/-- two objects of different content stand apart -/
theorem ne_of {H : Hp} {a b : Addr} {o u : HO} (h : H a = some o) (h' : H b = some u) (d : o ≠ u) : a ≠ b := by
  intro e; subst e; rw [h] at h'; exact d (Option.some.inj h')
theorem ne_of_none {H : Hp} {a b : Addr} {o : HO} (h : H a = some o) (h' : H b = none) : a ≠ b := by
  intro e; subst e; rw [h] at h'; cases h'

section
variable (P : Program) (w : World)
def ObjOk (H : Hp) (h : Heap) (a : Addr) : HO → Prop
  | .lst xs => xs.length ≤ sizeLine ∧ ∃ (its : List Value) (n : Nat), Vals xs its ∧ h.get? a = some { cls := .type "list", data := .seq its.toArray n }
  | .tup xs => xs.length ≤ sizeLine ∧ ∃ its : List Value, Vals xs its ∧ IsTup h a its.toArray
  | .dK kvs => kvs.length ≤ sizeLine ∧ (a == sysModules) = false ∧ ∃ vs, KV kvs vs ∧ h.DictOf (mixKind P w) a vs
  | .dT kvs => kvs.length ≤ sizeLine ∧ (a == sysModules) = false ∧ ∃ xs : List (List Key × Addr × Value),
      Paired (fun (p : List Key × V) (q : List Key × Addr × Value) => p.1 = q.1 ∧ H q.2.1 = some (.tup (p.1.map kV)) ∧ RelV p.2 q.2.2) kvs xs ∧
      ∃ o es ep, h.get? a = some o ∧ o.ExactDict ∧ o.data = .dict es ep ∧ es.toList = xs.map (entryOfKey (tupleKind (mixKind P w))) ∧ (xs.map (·.1)).Nodup
  | .set S n => h.SetOf (intKind P w) a S n
  | .ins C dx fs => H dx = some (.own a) ∧ fs.length ≤ 1000 ∧ dx ≠ a ∧ h.get? a = some (PySem.W.instObj C dx) ∧
      ∃ mA, h.Ns1 dx mA ∧ (∀ f, RelO (fs.lookup f) (mA f)) ∧ PySem.Within mA (fs.map (·.1))
  | .own _ => ∃ o, h.get? a = some o
  | .xd fs => ∃ mA, h.Ns1 a mA ∧ ∀ f, RelO (fs.lookup f) (mA f)
  | .rng lo hi => ∃ t u v, h.get? a = some { cls := .type "range", data := .fields #[.int lo t, .int hi u, .int 1 v] }
  | .frz o u => h.get? a = some o ∧ ObjOk H h a u
  | .tbl ps => h.get? a = some { cls := .none, data := .fields ps }
  | .met f x => h.get? a = some (PySem.W.methodObj (.ref f) (.ref x))
  | .ext φ => φ h ∧ (∃ o, h.get? a = some o) ∧ ∀ h1 h2 : Heap, φ h1 → (∀ o, h1.get? a = some o → h2.get? a = some o) → φ h2
/-- the abstract heap is held -/
def HOk (H : Hp) (h : Heap) : Prop := ∀ a o, H a = some o → ObjOk P w H h a o
end

section
variable {P : Program} {w : World} {H H' : Hp} {h h' : Heap} {a : Addr} {o : HO}
theorem ObjOk.lt (x : ObjOk P w H h a o) : a < h.objs.size := by
  cases o with
  | lst xs => obtain ⟨_, _, _, _, e⟩ := x; exact Heap.lt_size e
  | tup xs => obtain ⟨_, _, _, p⟩ := x; exact p.lt
  | dK kvs => obtain ⟨_, _, _, _, o, _, _, e, _⟩ := x; exact Heap.lt_size e
  | dT kvs => obtain ⟨_, _, _, _, o, _, _, e, _⟩ := x; exact Heap.lt_size e
  | set S n => obtain ⟨o, _, _, _, e, _⟩ := x; exact Heap.lt_size e
  | ins C dx fs => obtain ⟨_, _, _, e, _⟩ := x; exact Heap.lt_size e
  | own y => obtain ⟨_, e⟩ := x; exact Heap.lt_size e
  | xd fs => obtain ⟨_, ⟨_, _, _, e, _⟩, _⟩ := x; exact Heap.lt_size e
  | rng lo hi => obtain ⟨_, _, _, e⟩ := x; exact Heap.lt_size e
  | frz ob u => obtain ⟨e, _⟩ := x; exact Heap.lt_size e
  | tbl ps => exact Heap.lt_size (show h.get? a = some _ from x)
  | met f y => exact Heap.lt_size (show h.get? a = some _ from x)
  | ext φ => obtain ⟨_, ⟨_, e⟩, _⟩ := x; exact Heap.lt_size e
theorem Paired.mapP {α β : Type} {F G : α → β → Prop} : ∀ {l₁ : List α} {l₂ : List β}, Paired F l₁ l₂ → (∀ a b, F a b → G a b) → Paired G l₁ l₂
  | _, _, .nil, _ => .nil
  | _, _, .cons r t, f => .cons (f _ _ r) (Paired.mapP t f)
theorem Paired.imp' {α β : Type} {F G : α → β → Prop} (f : ∀ a b, F a b → G a b) {l₁ : List α} {l₂ : List β} (r : Paired F l₁ l₂) : Paired G l₁ l₂ := Paired.mapP r f
/-- what an object's description leans on: its own object, its own dict, the tuples -/
theorem ObjOk.stay (x : ObjOk P w H h a o) (k : ∀ b u, (b = a ∨ H b = some (.own a)) → h.get? b = some u → h'.get? b = some u)
    (ho : ∀ b, H b = some (.own a) → H' b = some (.own a)) (ht : ∀ b xs, H b = some (.tup xs) → H' b = some (.tup xs)) : ObjOk P w H' h' a o := by
  induction o with
  | lst xs => obtain ⟨z, its, n, r, e⟩ := x; exact ⟨z, its, n, r, k _ _ (.inl rfl) e⟩
  | tup xs => obtain ⟨z, its, r, ob, e, c⟩ := x; exact ⟨z, its, r, ob, k _ _ (.inl rfl) e, c⟩
  | dK kvs => obtain ⟨z, y, vs, r, ob, es, ep, e, c⟩ := x; exact ⟨z, y, vs, r, ob, es, ep, k _ _ (.inl rfl) e, c⟩
  | dT kvs =>
    obtain ⟨z, y, xs, r, ob, es, ep, e, c⟩ := x
    exact ⟨z, y, xs, Paired.mapP r fun p q z => ⟨z.1, ht _ _ z.2.1, z.2.2⟩, ob, es, ep, k _ _ (.inl rfl) e, c⟩
  | set S n => obtain ⟨ob, es, ep, t, e, c⟩ := x; exact ⟨ob, es, ep, t, k _ _ (.inl rfl) e, c⟩
  | ins C dx fs =>
    obtain ⟨d, z, ne, e, mA, ⟨od, es, ep, e2, c⟩, r⟩ := x
    exact ⟨ho _ d, z, ne, k _ _ (.inl rfl) e, mA, ⟨od, es, ep, k _ _ (.inr d) e2, c⟩, r⟩
  | own y => obtain ⟨ob, e⟩ := x; exact ⟨ob, k _ _ (.inl rfl) e⟩
  | xd fs => obtain ⟨mA, ⟨od, es, ep, e, c⟩, r⟩ := x; exact ⟨mA, ⟨od, es, ep, k _ _ (.inl rfl) e, c⟩, r⟩
  | rng lo hi => obtain ⟨t, u, v, e⟩ := x; exact ⟨t, u, v, k _ _ (.inl rfl) e⟩
  | frz ob u ih => obtain ⟨e, q⟩ := x; exact ⟨k _ _ (.inl rfl) e, ih q⟩
  | tbl ps =>
    have e : h.get? a = some { cls := .none, data := .fields ps } := x
    show h'.get? a = some { cls := .none, data := .fields ps }
    exact k a _ (.inl rfl) e
  | met f y =>
    have e : h.get? a = some (PySem.W.methodObj (.ref f) (.ref y)) := x
    show h'.get? a = some (PySem.W.methodObj (.ref f) (.ref y))
    exact k a _ (.inl rfl) e
  | ext φ => obtain ⟨p, ⟨o, e⟩, st⟩ := x; exact ⟨st _ _ p fun o q => k _ _ (.inl rfl) q, ⟨o, k _ _ (.inl rfl) e⟩, st⟩
theorem HOk.lt (x : HOk P w H h) (e : H a = some o) : a < h.objs.size := (x a o e).lt
theorem HOk.fresh (x : HOk P w H h) (e : h.objs.size ≤ a) : H a = none := by
  cases q : H a with
  | none => rfl
  | some u => exact absurd (Nat.lt_of_lt_of_le (x.lt q) e) (Nat.lt_irrefl _)
/-- every object of the heap is kept -/
theorem HOk.kept (x : HOk P w H h) (k : ∀ b u, h.get? b = some u → h'.get? b = some u) : HOk P w H h' := fun a o e =>
  (x a o e).stay (fun b u _ q => k b u q) (fun _ q => q) fun _ _ q => q
/-- a new object is laid and tracked -/
theorem HOk.laid (x : HOk P w H h) (k : ∀ b u, h.get? b = some u → h'.get? b = some u) (hp : h.objs.size ≤ a) (new : ObjOk P w (upd H a o) h' a o) : HOk P w (upd H a o) h' := fun b u e => by
  have hn := x.fresh hp
  by_cases hb : b = a
  · subst hb; rw [upd_same] at e; cases e; exact new
  · rw [upd_ne hb] at e
    exact (x b u e).stay (fun c v _ q => k c v q) (fun c q => by rw [upd_ne (ne_of_none q hn)]; exact q) fun c xs q => by rw [upd_ne (ne_of_none q hn)]; exact q
end

/-- what may be read as u: it is u, or a known u -/
def Rd (H : Hp) (a : Addr) (u : HO) : Prop := H a = some u ∨ ∃ o, H a = some (.frz o u)
theorem Rd.of {H : Hp} {a : Addr} {u : HO} (h : H a = some u) : Rd H a u := .inl h
theorem Rd.ok {P : Program} {w : World} {H : Hp} {h : Heap} {a : Addr} {u : HO} (r : Rd H a u) (x : HOk P w H h) : ObjOk P w H h a u := by
  rcases r with r | ⟨o, r⟩
  · exact x a u r
  · obtain ⟨_, q⟩ := x a _ r
    exact q
/-- what may be written -/
def Mut : Option HO → Prop
  | some (.lst _) => True
  | some (.dK _) => True
  | some (.dT _) => True
  | some (.set _ _) => True
  | some (.ins _ _ _) => True
  | some (.ext _) => True
  | _ => False
section
variable {P : Program} {w : World} {H : Hp} {h h' : Heap} {x e : Addr} {o' : HO}
/-- the object at e is changed: x itself, or the dict of the instance x -/
theorem HOk.write (ok : HOk P w H h) (mu : Mut (H x)) (he : e = x ∨ H e = some (.own x)) (k : ∀ b u, b ≠ e → h.get? b = some u → h'.get? b = some u) (heo : ∃ u, h'.get? e = some u)
    (new : ObjOk P w (upd H x o') h' x o') : HOk P w (upd H x o') h' := fun b u q => by
  have nown : ∀ c y, H c = some (.own y) → c ≠ x := fun c y r z => by subst z; rw [r] at mu; exact mu
  have ntup : ∀ c xs, H c = some (.tup xs) → c ≠ x := fun c xs r z => by subst z; rw [r] at mu; exact mu
  by_cases hb : b = x
  · subst hb; rw [upd_same] at q; cases q; exact new
  · rw [upd_ne hb] at q
    by_cases hbe : b = e
    · have q' : H b = some (.own x) := by
        rcases he with z | z
        · exact absurd (hbe.trans z) hb
        · rw [hbe]; exact z
      rw [q] at q'; cases q'
      obtain ⟨v, hv⟩ := heo
      exact ⟨v, by rw [hbe]; exact hv⟩
    · refine (ok b u q).stay (fun c v hc r => k c v ?_ r) (fun c r => by rw [upd_ne (nown c b r)]; exact r) fun c xs r => by rw [upd_ne (ntup c xs r)]; exact r
      rcases hc with rfl | hc
      · exact hbe
      · rintro rfl
        rcases he with z | z
        · exact nown c b hc z
        · rw [hc] at z; cases z; exact hb rfl
end

/-! ### kept unless tracked; of the frames at fs (the callers') the slots may change (an exception that passes writes there); of the records at ex (iterators) nothing is said -/
structure Un (fs ex : List Addr) (H H' : Hp) (h h' : Heap) : Prop where
  keep : ∀ b o, h.get? b = some o → H b = none → b ∉ fs → b ∉ ex → h'.get? b = some o
  slot : ∀ b o, h.get? b = some o → H b = none → b ∈ fs → b ∉ ex → ∃ sl, h'.get? b = some { o with slots := sl }
  free : ∀ b o, h.get? b = some o → H b = none → b ∉ ex → H' b = none
  there : ∀ b o, h.get? b = some o → b ∉ ex → ∃ o', h'.get? b = some o'
  tups : ∀ b xs, H b = some (.tup xs) → H' b = some (.tup xs)
  frzs : ∀ b o u, H b = some (.frz o u) → H' b = some (.frz o u)
  tbls : ∀ b ps, H b = some (.tbl ps) → ∃ more, H' b = some (.tbl (ps ++ more))
section
variable {fs fs' ex ex' : List Addr} {H H1 H2 : Hp} {h h1 h2 h' : Heap} {a x e : Addr} {o : HO}
theorem Un.any (u : Un fs ex H H1 h h1) {b : Addr} {ob : Obj} (q : h.get? b = some ob) (n : H b = none) (hx : b ∉ ex) : ∃ sl, h1.get? b = some { ob with slots := sl } := by
  by_cases hb : b ∈ fs
  · exact u.slot b ob q n hb hx
  · exact ⟨ob.slots, u.keep b ob q n hb hx⟩
theorem Un.trans (a : Un fs ex H H1 h h1) (b : Un fs ex H1 H2 h1 h2) : Un fs ex H H2 h h2 where
  keep := fun c ob q n hc hx => b.keep c ob (a.keep c ob q n hc hx) (a.free c ob q n hx) hc hx
  slot := fun c ob q n hc hx => by
    obtain ⟨sl, e1⟩ := a.slot c ob q n hc hx
    obtain ⟨sl', e2⟩ := b.slot c _ e1 (a.free c ob q n hx) hc hx
    exact ⟨sl', e2⟩
  free := fun c ob q n hx => by
    obtain ⟨o', e1⟩ := a.there c ob q hx
    exact b.free c o' e1 (a.free c ob q n hx) hx
  there := fun c ob q hx => by
    obtain ⟨o', e1⟩ := a.there c ob q hx
    exact b.there c o' e1 hx
  tups := fun c xs q => b.tups c xs (a.tups c xs q)
  frzs := fun c ob xs q => b.frzs c ob xs (a.frzs c ob xs q)
  tbls := fun c ps q => by
    obtain ⟨m1, e1⟩ := a.tbls c ps q
    obtain ⟨m2, e2⟩ := b.tbls c _ e1
    exact ⟨m1 ++ m2, by rw [e2, Array.append_assoc]⟩
theorem Un.kept (k : ∀ b u, h.get? b = some u → h'.get? b = some u) : Un fs ex H H h h' :=
  ⟨fun b ob q _ _ _ => k b ob q, fun b ob q _ _ _ => ⟨ob.slots, k b ob q⟩, fun _ _ _ n _ => n, fun b ob q _ => ⟨ob, k b ob q⟩, fun _ _ q => q, fun _ _ _ q => q, fun _ ps q => ⟨#[], by rw [q]; simp⟩⟩
theorem Un.refl : Un fs ex H H h h := Un.kept fun _ _ q => q
theorem Un.laid (k : ∀ b u, h.get? b = some u → h'.get? b = some u) (hp : h.objs.size ≤ a) (hn : H a = none) : Un fs ex H (upd H a o) h h' where
  keep := fun b u q _ _ _ => k b u q
  slot := fun b u q _ _ _ => ⟨u.slots, k b u q⟩
  free := fun b u q n _ => by rw [upd_ne (Nat.ne_of_lt (Nat.lt_of_lt_of_le (Heap.lt_size q) hp))]; exact n
  there := fun b u q _ => ⟨u, k b u q⟩
  tups := fun b xs q => by rw [upd_ne (ne_of_none q hn)]; exact q
  frzs := fun b u xs q => by rw [upd_ne (ne_of_none q hn)]; exact q
  tbls := fun b ps q => ⟨#[], by rw [upd_ne (ne_of_none q hn), q]; simp⟩
theorem Un.write (mu : Mut (H x)) (he : e = x ∨ H e = some (.own x)) (k : ∀ b u, b ≠ e → h.get? b = some u → h'.get? b = some u) (heo : ∃ u, h'.get? e = some u) : Un fs ex H (upd H x o) h h' := by
  have hx : ∀ b, H b = none → b ≠ x := fun b n z => by subst z; rw [n] at mu; exact mu
  have hb : ∀ b, H b = none → b ≠ e := fun b n z => by
    subst z
    rcases he with r | r
    · exact hx b n r
    · rw [n] at r; cases r
  have hm : ∀ b u, H b = some u → ¬ Mut (some u) → b ≠ x := fun b u q nm z => by subst z; rw [q] at mu; exact nm mu
  refine ⟨fun b u q n _ _ => k b u (hb b n) q, fun b u q n _ _ => ⟨u.slots, k b u (hb b n) q⟩, fun b u q n _ => by rw [upd_ne (hx b n)]; exact n, fun b u q _ => ?_,
    fun b xs q => by rw [upd_ne (hm b _ q fun z => z)]; exact q, fun b u xs q => by rw [upd_ne (hm b _ q fun z => z)]; exact q, fun b ps q => ⟨#[], by rw [upd_ne (hm b _ q fun z => z), q]; simp⟩⟩
  by_cases hbe : b = e
  · subst hbe; exact heo
  · exact ⟨u, k b u hbe q⟩
theorem Un.mono (u : Un fs ex H H1 h h1) (hs : ∀ b ∈ fs, b ∈ fs') (hx : ∀ b ∈ ex, b ∈ ex') : Un fs' ex' H H1 h h1 :=
  ⟨fun b ob q n hb he => u.keep b ob q n (fun z => hb (hs b z)) fun z => he (hx b z), fun _ _ q n _ he => u.any q n fun z => he (hx _ z), fun b ob q n he => u.free b ob q n fun z => he (hx b z), fun b ob q he => u.there b ob q fun z => he (hx b z), u.tups, u.frzs, u.tbls⟩
end

/-! ### the heap without what is tracked -/
def trk (h : Heap) (H : Hp) : List Addr := (List.range h.objs.size).filter fun a => (H a).isSome
def hidT (h : Heap) (H : Hp) : Heap := PySem.W.hideAll h (trk h H)
theorem hidT_size (h : Heap) (H : Hp) : (hidT h H).objs.size = h.objs.size := PySem.W.hideAll_size _ _
theorem hidT_get {h : Heap} {H : Hp} {b : Addr} {o : Obj} (e : h.get? b = some o) (n : H b = none) : (hidT h H).get? b = some o :=
  PySem.W.hideAll_get _ e fun hm => by
    have q : (H b).isSome = true := (List.mem_filter.mp hm).2
    rw [n] at q; simp at q
theorem of_hidT {h : Heap} {H : Hp} {b : Addr} {o : Obj} (e : (hidT h H).get? b = some o) : h.get? b = some o ∧ H b = none := by
  have e' : h.get? b = some o := PySem.W.of_hideAll (trk h H) e
  refine ⟨e', ?_⟩
  cases q : H b with
  | none => rfl
  | some x =>
    have hm : b ∈ trk h H := List.mem_filter.mpr ⟨List.mem_range.mpr (Heap.lt_size e'), by simp [q]⟩
    have z : (hidT h H).get? b = none := PySem.W.hideAll_none (trk h H) hm
    rw [z] at e; cases e

/-! ### OpenK's ledger, filled with every new object but one -/
def allNews (g h : Heap) (L : Addr) : List (Addr × Obj) := (List.range h.objs.size).filterMap fun a => if a = L ∨ (g.get? a).isSome = true then none else (h.get? a).map fun o => (a, o)
theorem mem_allNews {g h : Heap} {L a : Addr} {o : Obj} (h1 : a ≠ L) (h2 : g.get? a = none) (h3 : h.get? a = some o) : (a, o) ∈ allNews g h L :=
  List.mem_filterMap.mpr ⟨a, List.mem_range.mpr (Heap.lt_size h3), by simp [h1, h2, h3]⟩
theorem of_mem_allNews {g h : Heap} {L : Addr} {p : Addr × Obj} (hp : p ∈ allNews g h L) : p.1 ≠ L ∧ g.get? p.1 = none ∧ h.get? p.1 = some p.2 := by
  obtain ⟨b, _, e⟩ := List.mem_filterMap.mp hp
  split at e
  · cases e
  · rename_i hn
    cases q : h.get? b with
    | none => rw [q] at e; simp at e
    | some u =>
      rw [q] at e
      simp only [Option.map_some, Option.some.injEq] at e
      subst e
      refine ⟨fun z => hn (.inl z), ?_, q⟩
      show g.get? b = none
      cases r : g.get? b with
      | none => rfl
      | some v => exact (hn (.inr (by simp [r]))).elim
def rest (g h : Heap) (L d : Addr) : List (Addr × Obj) := (allNews g h L).filter fun p => decide (p.1 ≠ d)
theorem rest_ne {g h : Heap} {L d : Addr} : ∀ p ∈ rest g h L d, p.1 ≠ d := fun p hp => of_decide_eq_true (List.mem_filter.mp hp).2
theorem mem_rest {g h : Heap} {L d a : Addr} {o : Obj} (h1 : a ≠ L) (h2 : g.get? a = none) (h3 : h.get? a = some o) (h4 : a ≠ d) : (a, o) ∈ rest g h L d :=
  List.mem_filter.mpr ⟨mem_allNews h1 h2 h3, decide_eq_true h4⟩
theorem news_all {g h : Heap} {L : Addr} : News g L h (allNews g h L) := fun p hp => let ⟨a, b, c⟩ := of_mem_allNews hp; ⟨c, a, b⟩
theorem news_at {g h : Heap} {L d : Addr} {o : Obj} (h1 : d ≠ L) (h2 : g.get? d = none) (h3 : h.get? d = some o) : News g L h ((d, o) :: rest g h L d) := fun p hp => by
  rcases List.mem_cons.mp hp with rfl | hp
  · exact ⟨h3, h1, h2⟩
  · exact news_all p (List.mem_filter.mp hp).1
/-- behind a rule that changed d alone: all else but the frame is kept -/
theorem kept_of_news {g h h' : Heap} {L d : Addr} {m : Str → Option Value} (k : ∀ b o, g.get? b = some o → h.get? b = some o) (F : Fr g L h' m) (N : News g L h' (rest g h L d)) :
    ∀ b o, b ≠ L → b ≠ d → h.get? b = some o → h'.get? b = some o := fun b o h1 h2 e => by
  cases q : g.get? b with
  | some u =>
    have := k b u q
    rw [e] at this; cases this
    exact F.keep b _ q
  | none => exact (N (b, o) (mem_rest h1 q e h2)).1
end L2

namespace L2
open PySem PySem.Spec PyProof.Rows

/-- the module's facts, over the base: the heap at the law's entry without what is tracked there -/
structure Mod (K : PySem.W.Frag) (mg : Str → Option Value) (base : Heap) : Prop where
  kin : K.In base
  glob : base.Ns mainGlobals mg
  blt : ∃ mb, base.Ns builtinsNs mb ∧ ∀ x : Str, x ≠ "__name__" → mb x = bootBuiltins x
  nolimit : base.NoLimit

/-- the context: a def's body (or a comprehension's block) running. base: fixed through the whole law; s₀, H₀: the entry; outer: the frames whose slots others may change (a def's callers); stack: all frames that run;
   ex: iterators that were made ahead of the entry and are walked here (a comprehension's); fn: the names whose cells were made at the entry (a def: all; a comprehension's block: its own); calm: not within an except suite; pn: pins that every state bears; xe: what is wanted of an exception that leaves the code -/
structure Cx where
  prog : Program
  w : World
  K : PySem.W.Frag
  mg : Str → Option Value
  base : Heap
  A : Around
  N : List Str
  s₀ : Shared
  H₀ : Hp
  env : Env
  outer : List Env
  stack : List Env
  ex : List Addr
  fn : Str → Bool
  calm : Bool
  pn : List (Addr × Obj)
  xe : Value → Shared → Prop
/-- the callers' frames -/
def frs (l : List Env) : List Addr := l.filterMap (·.frame)
abbrev Cx.fs (X : Cx) : List Addr := frs X.outer

def Vis (sc : Scope) (x : Str) : Prop := sc.names.lookup x = some .local ∨ sc.names.lookup x = some .cell ∨ sc.names.lookup x = some .free
def Loc (sc : Scope) (x : Str) : Prop := sc.names.lookup x = some .local ∨ sc.names.lookup x = some .cell
def Look (env : Env) (h : Heap) (m : Str → Option Value) (x : Str) (u : Value) : Prop :=
  (env.kindOf x = some .local ∧ m x = some u) ∨ ((env.kindOf x = some .cell ∨ env.kindOf x = some .free) ∧ ∃ c, env.cells.lookup x = some c ∧ h.IsCell c (some u))

structure Cx.Ok (X : Cx) : Prop where
  mod : Mod X.K X.mg X.base
  kind : X.env.scope.kind = .function
  glob : X.env.globals = mainGlobals
  blt : X.env.builtins = builtinsNs
  above : X.s₀.heap.objs.size ≤ X.env.locals
  inj : ∀ x y c, X.env.cells.lookup x = some c → X.env.cells.lookup y = some c → x = y
  has : ∀ x, (X.env.kindOf x = some .cell ∨ X.env.kindOf x = some .free) → ∃ c, X.env.cells.lookup x = some c
  cab : ∀ x c, X.fn x = true → X.env.cells.lookup x = some c → X.s₀.heap.objs.size ≤ c
  hd : X.calm = true → X.A.handled = none
  frames : X.A.frames = some X.stack
  stk : X.stack = X.outer ∨ (X.stack = X.env :: X.outer ∧ X.env.frame = some X.env.locals)
  exf : ∀ b ∈ X.ex, b ≠ X.env.locals ∧ ∀ x c, X.env.cells.lookup x = some c → c ≠ b
  bs : ∀ b o, X.base.get? b = some o → X.s₀.heap.get? b = some o ∧ X.H₀ b = none
  bsz : X.base.objs.size ≤ X.s₀.heap.objs.size
  noex : ∀ b o, X.base.get? b = some o → b ∉ X.ex
  exfs : ∀ b ∈ X.ex, b ∉ X.fs
  funs : X.s₀.heap.FunFrames X.base X.outer
  frf : ∀ b ∈ X.fs, X.H₀ b = none

structure Inv (X : Cx) (pins : List (Addr × Obj)) (σ : List (Option V)) (H : Hp) (s : Shared) : Prop where
  ok : X.Ok
  os : s.os = X.s₀.os
  bare : AllBare s.gens
  base : Un X.fs X.ex X.H₀ H X.s₀.heap s.heap
  loc : ∃ m, s.heap.Ns X.env.locals m ∧ ∀ (i : Nat) (x : Str) (v : V), X.N[i]? = some x → σ[i]? = some (some v) → Vis X.env.scope x → ∃ u, RelV v u ∧ Look X.env s.heap m x u
  cell : ∀ x c, X.env.cells.lookup x = some c → ∃ v, s.heap.IsCell c v
  free : H X.env.locals = none
  freeC : ∀ x c, X.env.cells.lookup x = some c → H c = none
  pin : ∀ p ∈ X.pn ++ pins, s.heap.get? p.1 = some p.2 ∧ H p.1 = none ∧ p.1 ≠ X.env.locals ∧ p.1 ∉ X.fs ∧ ∀ v, p.2.data ≠ .cell v
  hok : HOk X.prog X.w H s.heap
  len : σ.length = X.N.length

section
variable {X : Cx} {pins : List (Addr × Obj)} {σ : List (Option V)} {H H' : Hp} {s : Shared} {h' : Heap}

theorem Cx.Ok.nofr (ok : X.Ok) {b : Addr} {o : Obj} (e : X.base.get? b = some o) : b ∉ X.fs := fun hb => by
  have := (ok.funs.mem hb).1
  rw [e] at this; cases this
theorem Inv.bs (I : Inv X pins σ H s) : ∀ b o, X.base.get? b = some o → s.heap.get? b = some o ∧ H b = none := fun b o e =>
  ⟨I.base.keep b o (I.ok.bs b o e).1 (I.ok.bs b o e).2 (I.ok.nofr e) (I.ok.noex b o e), I.base.free b o (I.ok.bs b o e).1 (I.ok.bs b o e).2 (I.ok.noex b o e)⟩
theorem Inv.bk (I : Inv X pins σ H s) : ∀ b o, X.base.get? b = some o → s.heap.get? b = some o := fun b o e => (I.bs b o e).1
theorem Inv.mod (I : Inv X pins σ H s) : Mod X.K X.mg X.base := I.ok.mod
theorem Inv.kIn (I : Inv X pins σ H s) : X.K.In s.heap := I.ok.mod.kin.keeps I.bk
theorem Inv.nolimit (I : Inv X pins σ H s) : s.heap.NoLimit := I.ok.mod.nolimit.keeps I.bk
/-- the frame over the base: for OpenK's rules (K.In X.base is I.mod.kin) -/
theorem Inv.fr (I : Inv X pins σ H s) : ∃ m, Fr X.base X.env.locals s.heap m :=
  let ⟨m, hn, _⟩ := I.loc
  ⟨m, hn, I.bk, Nat.le_trans I.ok.bsz I.ok.above⟩
theorem Inv.lt (I : Inv X pins σ H s) : X.env.locals < s.heap.objs.size := let ⟨_, hn, _⟩ := I.loc; hn.lt
theorem Inv.sz (I : Inv X pins σ H s) : X.s₀.heap.objs.size ≤ s.heap.objs.size := Nat.le_trans I.ok.above (Nat.le_of_lt I.lt)
theorem Inv.nofs (I : Inv X pins σ H s) {a : Addr} (h : s.heap.objs.size ≤ a) : a ∉ X.fs := fun hb => by
  obtain ⟨_, o, ho, _⟩ := I.ok.funs.mem hb
  exact absurd (Nat.lt_of_lt_of_le (Heap.lt_size ho) (Nat.le_trans I.sz h)) (Nat.lt_irrefl _)
theorem Inv.cne (I : Inv X pins σ H s) : ∀ x c, X.env.cells.lookup x = some c → c ≠ X.env.locals := fun x c e z => by
  obtain ⟨v, o, ho, hd⟩ := I.cell x c e
  obtain ⟨m, ⟨o', es, ep, ho', hd', _⟩, _⟩ := I.loc
  rw [z, ho'] at ho; cases ho; rw [hd'] at hd; cases hd
theorem Inv.funs (I : Inv X pins σ H s) : s.heap.FunFrames X.base X.outer := by
  have all : ∀ (l : List Env), (∀ b ∈ frs l, b ∈ X.fs) → X.s₀.heap.FunFrames X.base l → s.heap.FunFrames X.base l := by
    intro l
    induction l with
    | nil => intro _ _; trivial
    | cons env r ih =>
      intro hs hl
      obtain ⟨hk, ⟨L, o, hf, hn, ho, hd⟩, hr⟩ := hl
      have hL : L ∈ X.fs := hs L (by unfold frs; rw [List.filterMap_cons, hf]; exact List.mem_cons_self)
      obtain ⟨sl, e⟩ := I.base.slot L o ho (I.ok.frf L hL) hL fun z => I.ok.exfs L z hL
      exact ⟨hk, ⟨L, _, hf, hn, e, hd⟩, ih (fun b hb => hs b (by unfold frs; rw [List.filterMap_cons, hf]; exact List.mem_cons_of_mem _ hb)) hr⟩
  exact all X.outer (fun _ hb => hb) I.ok.funs

/-- the frames that run, for a call -/
theorem Inv.stack (I : Inv X pins σ H s) : s.heap.FunFrames X.base X.stack := by
  rcases I.ok.stk with e | ⟨e, hf⟩
  · rw [e]; exact I.funs
  · rw [e]
    obtain ⟨m, hn, _⟩ := I.loc
    refine .cons (by rw [I.ok.kind]; decide) hf hn ?_ I.funs
    exact Heap.get?_none_of_le (Nat.le_trans I.ok.bsz I.ok.above)
theorem Inv.stkSub (I : Inv X pins σ H s) : ∀ b ∈ frs X.stack, b ∈ X.env.locals :: X.fs := fun b hb => by
  rcases I.ok.stk with e | ⟨e, hf⟩
  · rw [e] at hb; exact List.mem_cons_of_mem _ hb
  · rw [e] at hb
    unfold frs at hb
    rw [List.filterMap_cons, hf] at hb
    exact hb
theorem Inv.stkFree (I : Inv X pins σ H s) : ∀ b ∈ frs X.stack, H b = none := fun b hb => by
  rcases List.mem_cons.mp (I.stkSub b hb) with e | hb
  · rw [e]; exact I.free
  · obtain ⟨_, o, ho, _⟩ := I.ok.funs.mem hb
    exact I.base.free b o ho (I.ok.frf b hb) fun z => I.ok.exfs b z hb

/-- THE STEP: the untracked objects but the frame and the records at ch are kept (the callers' frames up to slots), the frame's map is kept, the new abstract heap is held -/
theorem Inv.step {g' : Array GenState} {t' : Nat} {d' : Drawn} {ch : List Addr} (I : Inv X pins σ H s)
    (hch : ∀ b ∈ ch, (b ∈ X.ex ∨ X.s₀.heap.objs.size ≤ b) ∧ b ≠ X.env.locals ∧ (∀ x c, X.env.cells.lookup x = some c → c ≠ b) ∧ ∀ p ∈ X.pn ++ pins, p.1 ≠ b)
    (keep : ∀ b o, b ≠ X.env.locals → b ∉ X.fs → b ∉ ch → s.heap.get? b = some o → H b = none → h'.get? b = some o)
    (slot : ∀ b o, b ≠ X.env.locals → b ∈ X.fs → b ∉ ch → s.heap.get? b = some o → H b = none → ∃ sl, h'.get? b = some { o with slots := sl }) (free : ∀ b o, b ∉ ch → s.heap.get? b = some o → H b = none → H' b = none)
    (there : ∀ b o, b ∉ ch → s.heap.get? b = some o → ∃ o', h'.get? b = some o')
    (tups : ∀ b xs, H b = some (.tup xs) → H' b = some (.tup xs)) (frzs : ∀ b o u, H b = some (.frz o u) → H' b = some (.frz o u)) (tbls : ∀ b ps, H b = some (.tbl ps) → ∃ more, H' b = some (.tbl (ps ++ more)))
    (ns : ∀ m, s.heap.Ns X.env.locals m → h'.Ns X.env.locals m) (hok : HOk X.prog X.w H' h') (hg : AllBare g') :
    Inv X pins σ H' { s with heap := h', gens := g', drawn := d', toks := t' } := by
  have neL : ∀ b o, X.s₀.heap.get? b = some o → b ≠ X.env.locals := fun b o e => Nat.ne_of_lt (Nat.lt_of_lt_of_le (Heap.lt_size e) I.ok.above)
  have neC : ∀ b o, X.s₀.heap.get? b = some o → b ∉ X.ex → b ∉ ch := fun b o e hx hb => by
    rcases (hch b hb).1 with z | z
    · exact hx z
    · exact absurd (Nat.lt_of_lt_of_le (Heap.lt_size e) z) (Nat.lt_irrefl _)
  have cellK : ∀ x c, X.env.cells.lookup x = some c → ∀ v, s.heap.IsCell c v → h'.IsCell c v := fun x c e v ⟨o, ho, hd⟩ => by
    have nch : c ∉ ch := fun z => (hch c z).2.2.1 x c e rfl
    by_cases hc : c ∈ X.fs
    · obtain ⟨sl, q⟩ := slot c o (I.cne x c e) hc nch ho (I.freeC x c e)
      exact ⟨_, q, hd⟩
    · exact ⟨o, keep c o (I.cne x c e) hc nch ho (I.freeC x c e), hd⟩
  refine ⟨I.ok, I.os, hg, ⟨fun b o e n hb hx => ?_, fun b o e n hb hx => ?_, fun b o e n hx => ?_, fun b o e hx => ?_, fun b xs e => tups b xs (I.base.tups b xs e), fun b o xs e => frzs b o xs (I.base.frzs b o xs e), fun b ps e => ?_⟩, ?_, fun x c e => ?_, ?_, fun x c e => ?_, fun p hp => ?_, hok, I.len⟩
  · exact keep b o (neL b o e) hb (neC b o e hx) (I.base.keep b o e n hb hx) (I.base.free b o e n hx)
  · obtain ⟨sl, e1⟩ := I.base.slot b o e n hb hx
    obtain ⟨sl', e2⟩ := slot b _ (neL b o e) hb (neC b o e hx) e1 (I.base.free b o e n hx)
    exact ⟨sl', e2⟩
  · obtain ⟨o', e1⟩ := I.base.there b o e hx
    exact free b o' (neC b o e hx) e1 (I.base.free b o e n hx)
  · obtain ⟨o', e1⟩ := I.base.there b o e hx
    exact there b o' (neC b o e hx) e1
  · obtain ⟨m1, e1⟩ := I.base.tbls b ps e
    obtain ⟨m2, e2⟩ := tbls b _ e1
    exact ⟨m1 ++ m2, by rw [e2, Array.append_assoc]⟩
  · obtain ⟨m, hn, hl⟩ := I.loc
    refine ⟨m, ns m hn, fun i x v e1 e2 e3 => ?_⟩
    obtain ⟨u, r, l⟩ := hl i x v e1 e2 e3
    refine ⟨u, r, ?_⟩
    rcases l with l | ⟨k, c, e, z⟩
    · exact .inl l
    · exact .inr ⟨k, c, e, cellK x c e _ z⟩
  · obtain ⟨v, z⟩ := I.cell x c e
    exact ⟨v, cellK x c e v z⟩
  · obtain ⟨m, ⟨o, _, _, ho, _⟩, _⟩ := I.loc
    exact free _ o (fun z => (hch _ z).2.1 rfl) ho I.free
  · obtain ⟨v, o, ho, hd⟩ := I.cell x c e
    exact free c o (fun z => (hch c z).2.2.1 x c e rfl) ho (I.freeC x c e)
  · obtain ⟨e, n, ne, nf, d⟩ := I.pin p hp
    have nch : p.1 ∉ ch := fun z => (hch p.1 z).2.2.2 p hp rfl
    exact ⟨keep p.1 p.2 ne nf nch e n, free p.1 p.2 nch e n, ne, nf, d⟩
/-- .. where the frame's own object is kept too -/
theorem Inv.un {t' : Nat} (I : Inv X pins σ H s) (u : Un X.fs [] H H' s.heap h') (hok : HOk X.prog X.w H' h') : Inv X pins σ H' { s with heap := h', toks := t' } := by
  obtain ⟨m, ⟨o, es, ep, ho, r⟩, _⟩ := id I.loc
  obtain ⟨sl, hL⟩ := u.any ho I.free (by simp)
  exact I.step (g' := s.gens) (d' := s.drawn) (ch := []) (fun _ z => nomatch z) (fun b o _ hb _ e n => u.keep b o e n hb (by simp)) (fun b o _ hb _ e n => u.slot b o e n hb (by simp)) (fun b o _ e n => u.free b o e n (by simp)) (fun b o _ e => u.there b o e (by simp)) u.tups u.frzs u.tbls (fun m' hm => by
    obtain ⟨o', es', ep', ho', r'⟩ := hm
    rw [ho] at ho'; cases ho'
    exact ⟨_, es', ep', hL, r'⟩) hok I.bare
/-- behind a call (or a comprehension's block): the slots of this frame may have changed too, the records at ch may have turned -/
theorem Inv.call {g' : Array GenState} {t' : Nat} {d' : Drawn} {ch : List Addr} (I : Inv X pins σ H s) (u : Un (frs X.stack) ch H H' s.heap h') (hok : HOk X.prog X.w H' h') (hg : AllBare g')
    (hch : ∀ b ∈ ch, (b ∈ X.ex ∨ X.s₀.heap.objs.size ≤ b) ∧ b ≠ X.env.locals ∧ (∀ x c, X.env.cells.lookup x = some c → c ≠ b) ∧ ∀ p ∈ X.pn ++ pins, p.1 ≠ b) :
    Inv X pins σ H' { s with heap := h', gens := g', drawn := d', toks := t' } := by
  obtain ⟨m, ⟨o, es, ep, ho, r⟩, _⟩ := id I.loc
  obtain ⟨sl, hL⟩ := u.any ho I.free fun z => (hch _ z).2.1 rfl
  exact I.step (ch := ch) hch (fun b o hL hb hc e n => u.keep b o e n (fun z => (List.mem_cons.mp (I.stkSub b z)).elim hL hb) hc) (fun b o _ _ hc e n => u.any e n hc) (fun b o hc e n => u.free b o e n hc) (fun b o hc e => u.there b o e hc) u.tups u.frzs u.tbls (fun m' hm => by
    obtain ⟨o', es', ep', ho', r'⟩ := hm
    rw [ho] at ho'; cases ho'
    exact ⟨_, es', ep', hL, r'⟩) hok hg
/-- an untracked record of ours (an iterator) has turned -/
theorem Inv.turned {t' : Nat} {it : Addr} (I : Inv X pins σ H s) (k : ∀ b o, b ≠ it → s.heap.get? b = some o → h'.get? b = some o) (hn : H it = none) (hL : it ≠ X.env.locals)
    (h1 : it ∈ X.ex ∨ X.s₀.heap.objs.size ≤ it) (h2 : ∀ x c, X.env.cells.lookup x = some c → c ≠ it) (h3 : ∀ p ∈ X.pn ++ pins, p.1 ≠ it) : Inv X pins σ H { s with heap := h', toks := t' } := by
  have nit : ∀ b u, H b = some u → b ≠ it := fun b u e z => by rw [z, hn] at e; cases e
  refine I.step (g' := s.gens) (d' := s.drawn) (ch := [it]) (fun b hb => ?_) (fun b o _ _ hc e _ => k b o (fun z => hc (by simp [z])) e) (fun b o _ _ hc e _ => ⟨o.slots, k b o (fun z => hc (by simp [z])) e⟩) (fun _ _ _ _ n => n)
    (fun b o hc e => ⟨o, k b o (fun z => hc (by simp [z])) e⟩) (fun _ _ e => e) (fun _ _ _ e => e) (fun b ps e => ⟨#[], by rw [e]; simp⟩) (fun m hm => ?_) (fun b u e => ?_) I.bare
  · have e : b = it := by simpa using hb
    subst e
    exact ⟨h1, hL, h2, h3⟩
  · obtain ⟨o, es, ep, ho, r⟩ := hm
    exact ⟨o, es, ep, k _ o (Ne.symm hL) ho, r⟩
  · refine (I.hok b u e).stay (fun c v hc q => k c v ?_ q) (fun _ q => q) fun _ _ q => q
    rcases hc with z | z
    · rw [z]; exact nit b u e
    · exact nit c _ z
theorem Inv.tok (I : Inv X pins σ H s) (t : Nat) : Inv X pins σ H { s with toks := t } := I.un (h' := s.heap) (t' := t) Un.refl I.hok
/-- all objects kept -/
theorem Inv.kept {t' : Nat} (I : Inv X pins σ H s) (k : ∀ b u, s.heap.get? b = some u → h'.get? b = some u) : Inv X pins σ H { s with heap := h', toks := t' } := I.un (Un.kept k) (I.hok.kept k)
/-- a new object laid and tracked -/
theorem Inv.laid {a : Addr} {o : HO} {t' : Nat} (I : Inv X pins σ H s) (k : ∀ b u, s.heap.get? b = some u → h'.get? b = some u) (hp : s.heap.objs.size ≤ a) (new : ObjOk X.prog X.w (upd H a o) h' a o) :
    Inv X pins σ (upd H a o) { s with heap := h', toks := t' } := I.un (Un.laid k hp (I.hok.fresh hp)) (I.hok.laid k hp new)
/-- an object written -/
theorem Inv.write {x e : Addr} {o : HO} {t' : Nat} (I : Inv X pins σ H s) (mu : Mut (H x)) (he : e = x ∨ H e = some (.own x)) (k : ∀ b u, b ≠ e → s.heap.get? b = some u → h'.get? b = some u) (heo : ∃ u, h'.get? e = some u)
    (new : ObjOk X.prog X.w (upd H x o) h' x o) : Inv X pins σ (upd H x o) { s with heap := h', toks := t' } := I.un (Un.write mu he k heo) (I.hok.write mu he k heo new)
/-- forgetting slots, pins -/
theorem Inv.weak {σ' : List (Option V)} (I : Inv X pins σ H s) (hl : σ'.length = σ.length) (w : ∀ (i : Nat) v, σ'[i]? = some (some v) → σ[i]? = some (some v)) : Inv X pins σ' H s :=
  ⟨I.ok, I.os, I.bare, I.base, let ⟨m, hn, hl'⟩ := I.loc; ⟨m, hn, fun i x v e1 e2 e3 => hl' i x v e1 (w i v e2) e3⟩, I.cell, I.free, I.freeC, I.pin, I.hok, hl.trans I.len⟩
theorem Inv.pins_of {pins' : List (Addr × Obj)} (I : Inv X pins σ H s) (h : ∀ p ∈ pins', s.heap.get? p.1 = some p.2 ∧ H p.1 = none ∧ p.1 ≠ X.env.locals ∧ p.1 ∉ X.fs ∧ ∀ v, p.2.data ≠ .cell v) : Inv X pins' σ H s :=
  ⟨I.ok, I.os, I.bare, I.base, I.loc, I.cell, I.free, I.freeC, fun p hp => (List.mem_append.mp hp).elim (fun z => I.pin p (List.mem_append_left _ z)) (h p), I.hok, I.len⟩

theorem nodup_ix {N : List Str} (hN : N.Nodup) {i j : Nat} {x : Str} (a : N[i]? = some x) (b : N[j]? = some x) : i = j := by
  obtain ⟨h1, e1⟩ := List.getElem?_eq_some_iff.mp a
  obtain ⟨h2, e2⟩ := List.getElem?_eq_some_iff.mp b
  exact (List.getElem_inj hN).mp (e1.trans e2.symm)

/-- a name is stored; what changed -/
theorem store_ok2 {M : Model} {A : Around} {E : Value → Shared → Prop} {i : Nat} {x : Str} {v : V} {u : Value} {Q : Unit → Shared → Prop} (I : Inv X pins σ H s) (hN : X.N.Nodup) (hi : X.N[i]? = some x) (hx : Loc X.env.scope x) (r : RelV v u)
    (h : ∀ s', Inv X pins (σ.set i (some v)) H s' → (∃ a, Heap.SameBut a s.heap s'.heap ∧ (a = X.env.locals ∨ X.env.cells.lookup x = some a)) → Q () s') (hf : X.fn x = true ∨ X.env.scope.names.lookup x = some .local := by first | exact .inl rfl | exact .inr rfl | assumption) : wpAny M A (storeName X.env x u) Q E s := by
  obtain ⟨m, hn, hl⟩ := id I.loc
  have hcls : (X.env.scope.kind == .class || (X.env.scope.kind == .module && X.env.locals != X.env.globals)) = false := by rw [I.ok.kind]; rfl
  have hiσ : i < σ.length := by rw [I.len]; exact (List.getElem?_eq_some_iff.mp hi).1
  have cne := I.cne
  have tracked : ∀ {a : Addr} {h' : Heap}, (∃ o, s.heap.get? a = some o ∧ H a = none) → Heap.SameBut a s.heap h' → HOk X.prog X.w H h' := fun {a h'} ha hs b ob e => by
    obtain ⟨_, _, hfree⟩ := ha
    refine (I.hok b ob e).stay (fun c w' hc q => (hs.2 c ?_).trans q) (fun _ q => q) fun _ _ q => q
    rintro rfl
    rcases hc with rfl | hc
    · rw [hfree] at e; cases e
    · rw [hfree] at hc; cases hc
  rcases hx with hk | hk
  · refine wpAny_storeName_local hk hn (fun h' hn' hs => ?_) hcls
    obtain ⟨oL, _, _, hoL, _⟩ := id hn
    refine h _ ⟨I.ok, I.os, I.bare, ⟨fun b o e n hb hx => ?_, fun b o e n hb hx => ?_, I.base.free, fun b o e hx => ?_, I.base.tups, I.base.frzs, I.base.tbls⟩, ⟨_, hn', fun j y v' e1 e2 e3 => ?_⟩, fun y c e => ?_, I.free, I.freeC, fun p hp => ?_, tracked ⟨oL, hoL, I.free⟩ hs, by simpa using I.len⟩ ⟨_, hs, .inl rfl⟩
    · exact (hs.2 b (Nat.ne_of_lt (Nat.lt_of_lt_of_le (Heap.lt_size e) I.ok.above))).trans (I.base.keep b o e n hb hx)
    · obtain ⟨sl, e1⟩ := I.base.slot b o e n hb hx
      exact ⟨sl, (hs.2 b (Nat.ne_of_lt (Nat.lt_of_lt_of_le (Heap.lt_size e) I.ok.above))).trans e1⟩
    · obtain ⟨o', e1⟩ := I.base.there b o e hx
      exact ⟨o', (hs.2 b (Nat.ne_of_lt (Nat.lt_of_lt_of_le (Heap.lt_size e) I.ok.above))).trans e1⟩
    · by_cases hj : j = i
      · subst hj
        rw [hi] at e1; cases e1
        rw [List.getElem?_set_self hiσ] at e2
        cases e2
        exact ⟨u, r, .inl ⟨hk, by simp⟩⟩
      · rw [List.getElem?_set_ne (Ne.symm hj)] at e2
        obtain ⟨u', r', q⟩ := hl j y v' e1 e2 e3
        refine ⟨u', r', ?_⟩
        rcases q with ⟨k, e⟩ | ⟨k, c, e, z⟩
        · refine .inl ⟨k, ?_⟩
          have : y ≠ x := fun e => hj (nodup_ix hN e1 (e ▸ hi))
          simp [this, e]
        · exact .inr ⟨k, c, e, z.sameBut hs (cne y c e)⟩
    · obtain ⟨w', z⟩ := I.cell y c e
      exact ⟨w', z.sameBut hs (cne y c e)⟩
    · obtain ⟨e, n, ne, nf, d⟩ := I.pin p hp
      exact ⟨(hs.2 p.1 ne).trans e, n, ne, nf, d⟩
  · have hfn : X.fn x = true := by
      rcases hf with z | z
      · exact z
      · rw [z] at hk; cases hk
    obtain ⟨c, hc⟩ := I.ok.has x (.inl hk)
    obtain ⟨w', z⟩ := I.cell x c hc
    refine wpAny_storeName_cell I.ok.kind hk hc z (fun h' hc' hs => ?_)
    obtain ⟨oc, hoc, hocd⟩ := id z
    refine h { s with heap := h' } ⟨I.ok, I.os, I.bare, ⟨fun b o e n hb hx => ?_, fun b o e n hb hx => ?_, I.base.free, fun b o e hx => ?_, I.base.tups, I.base.frzs, I.base.tbls⟩, ⟨m, hn.sameBut hs (Ne.symm (cne x c hc)), fun j y v' e1 e2 e3 => ?_⟩, fun y c' e => ?_, I.free, I.freeC, fun p hp => ?_, tracked ⟨oc, hoc, I.freeC x c hc⟩ hs, by simpa using I.len⟩ ⟨c, hs, .inr hc⟩
    · exact (hs.2 b (Nat.ne_of_lt (Nat.lt_of_lt_of_le (Heap.lt_size e) (I.ok.cab x c hfn hc)))).trans (I.base.keep b o e n hb hx)
    · obtain ⟨sl, e1⟩ := I.base.slot b o e n hb hx
      exact ⟨sl, (hs.2 b (Nat.ne_of_lt (Nat.lt_of_lt_of_le (Heap.lt_size e) (I.ok.cab x c hfn hc)))).trans e1⟩
    · obtain ⟨o', e1⟩ := I.base.there b o e hx
      exact ⟨o', (hs.2 b (Nat.ne_of_lt (Nat.lt_of_lt_of_le (Heap.lt_size e) (I.ok.cab x c hfn hc)))).trans e1⟩
    · by_cases hj : j = i
      · subst hj
        rw [hi] at e1; cases e1
        rw [List.getElem?_set_self hiσ] at e2
        cases e2
        exact ⟨u, r, .inr ⟨.inl hk, c, hc, hc'⟩⟩
      · rw [List.getElem?_set_ne (Ne.symm hj)] at e2
        obtain ⟨u', r', q⟩ := hl j y v' e1 e2 e3
        refine ⟨u', r', ?_⟩
        rcases q with q | ⟨k, c', e, z'⟩
        · exact .inl q
        · refine .inr ⟨k, c', e, z'.sameBut hs ?_⟩
          rintro rfl
          exact hj (nodup_ix hN e1 (I.ok.inj _ _ _ e hc ▸ hi))
    · by_cases hcc : c' = c
      · subst hcc; exact ⟨_, hc'⟩
      · obtain ⟨w2, z2⟩ := I.cell y c' e
        exact ⟨w2, z2.sameBut hs hcc⟩
    · obtain ⟨e, n, ne, nf, d⟩ := I.pin p hp
      refine ⟨(hs.2 p.1 ?_).trans e, n, ne, nf, d⟩
      intro q
      rw [q, hoc] at e
      have q' : oc = p.2 := Option.some.inj e
      exact d w' (by rw [← q']; exact hocd)
theorem store_ok {M : Model} {A : Around} {E : Value → Shared → Prop} {i : Nat} {x : Str} {v : V} {u : Value} {Q : Unit → Shared → Prop} (I : Inv X pins σ H s) (hN : X.N.Nodup) (hi : X.N[i]? = some x) (hx : Loc X.env.scope x) (r : RelV v u)
    (h : ∀ s', Inv X pins (σ.set i (some v)) H s' → Q () s') (hf : X.fn x = true ∨ X.env.scope.names.lookup x = some .local := by first | exact .inl rfl | exact .inr rfl | assumption) : wpAny M A (storeName X.env x u) Q E s :=
  store_ok2 I hN hi hx r (fun s' I' _ => h s' I') hf
/-- behind a call or a block, the state as it is -/
theorem Inv.call' {s' : Shared} {ch : List Addr} (I : Inv X pins σ H s) (ho : s'.os = s.os) (u : Un (frs X.stack) ch H H' s.heap s'.heap) (hok : HOk X.prog X.w H' s'.heap) (hg : AllBare s'.gens)
    (hch : ∀ b ∈ ch, (b ∈ X.ex ∨ X.s₀.heap.objs.size ≤ b) ∧ b ≠ X.env.locals ∧ (∀ x c, X.env.cells.lookup x = some c → c ≠ b) ∧ ∀ p ∈ X.pn ++ pins, p.1 ≠ b) : Inv X pins σ H' s' := by
  obtain ⟨h', g', d', t', o'⟩ := s'
  have e : o' = s.os := ho
  subst e
  exact I.call (g' := g') (t' := t') (d' := d') u hok hg hch
end

/-! ### the judgements -/
/-- an exception: its class, its own dict's address (where it has one), the abstract heap behind it -/
abbrev XK := Value → Option Addr → Hp → Prop
abbrev St := List (Option V)
abbrev VK := V → Hp → Prop
/-- an expression's reading; a test's; an argument list's -/
abbrev TE := St → Hp → VK → Prop
abbrev TT := St → Hp → (Bool → Hp → Prop) → Prop
abbrev TA := St → Hp → (List V → Hp → Prop) → Prop
/-- what is wanted behind a statement -/
structure Ends where
  nx : St → Hp → Prop
  rt : VK
  bk : St → Hp → Prop := fun _ _ => False
  ct : St → Hp → Prop := fun _ _ => False
abbrev TS := Ends → St → Hp → Prop

def EP (X : Cx) (pins : List (Addr × Obj)) (σ : St) (Q : VK) (u : Value) (s' : Shared) : Prop := ∃ v H', Inv X pins σ H' s' ∧ RelV v u ∧ Q v H'
def TP (X : Cx) (pins : List (Addr × Obj)) (σ : St) (Q : Bool → Hp → Prop) (b : Bool) (s' : Shared) : Prop := ∃ H', Inv X pins σ H' s' ∧ Q b H'
def AP (X : Cx) (pins : List (Addr × Obj)) (σ : St) (Q : List V → Hp → Prop) (us : List Value) (s' : Shared) : Prop := ∃ vs H', Inv X pins σ H' s' ∧ Vals vs us ∧ Q vs H'
def SP (X : Cx) (pins : List (Addr × Obj)) (D : Ends) (f : Flow) (s' : Shared) : Prop :=
  match f with
  | .next => ∃ σ' H', Inv X pins σ' H' s' ∧ D.nx σ' H'
  | .brk => ∃ σ' H', Inv X pins σ' H' s' ∧ D.bk σ' H'
  | .cont => ∃ σ' H', Inv X pins σ' H' s' ∧ D.ct σ' H'
  | .ret u => ∃ v σ' H', Inv X pins σ' H' s' ∧ RelV v u ∧ D.rt v H'

def PE (X : Cx) (e : Expr) (t : TE) : Prop :=
  ∀ (pins : List (Addr × Obj)) (s : Shared) (σ : St) (H : Hp) (Q : VK), Inv X pins σ H s → t σ H Q → wpAny (model X.prog X.w) X.A (eval e X.env) (EP X pins σ Q) X.xe s
def PT (X : Cx) (e : Expr) (t : TT) : Prop :=
  ∀ (pins : List (Addr × Obj)) (s : Shared) (σ : St) (H : Hp) (Q : Bool → Hp → Prop), Inv X pins σ H s → t σ H Q → wpAny (model X.prog X.w) X.A (isTrue e X.env (eval e X.env)) (TP X pins σ Q) X.xe s
/-- a test whatever its 'whole' is (and, or) -/
def PW (X : Cx) (e : Expr) (t : TT) : Prop :=
  ∀ (whole : Sem Value) (pins : List (Addr × Obj)) (s : Shared) (σ : St) (H : Hp) (Q : Bool → Hp → Prop), Inv X pins σ H s → t σ H Q → wpAny (model X.prog X.w) X.A (isTrue e X.env whole) (TP X pins σ Q) X.xe s
theorem PW.pt {X : Cx} {e : Expr} {t : TT} (h : PW X e t) : PT X e t := h _
/-- an argument list (no star), from the left -/
def PA (X : Cx) (es : List Expr) (t : TA) : Prop :=
  ∀ (pos : Pos) (pins : List (Addr × Obj)) (s : Shared) (σ : St) (H : Hp) (Q : List V → Hp → Prop), Inv X pins σ H s → t σ H Q → wpAny (model X.prog X.w) X.A (spliced (backTo pos (starEach es X.env))) (AP X pins σ Q) X.xe s
def PS (X : Cx) (st : Stmt) (t : TS) : Prop :=
  ∀ (pins : List (Addr × Obj)) (s : Shared) (σ : St) (H : Hp) (D : Ends), Inv X pins σ H s → t D σ H → wpAny (model X.prog X.w) X.A (exec st X.env) (SP X pins D) X.xe s
def PSs (X : Cx) (st : List Stmt) (t : TS) : Prop :=
  ∀ (pins : List (Addr × Obj)) (s : Shared) (σ : St) (H : Hp) (D : Ends), Inv X pins σ H s → t D σ H → wpAny (model X.prog X.w) X.A (execs st X.env) (SP X pins D) X.xe s
/-- weaken the end -/
theorem thn {α : Type} {t : Sem α} {Q Q' : α → Shared → Prop} {M : Model} {A : Around} {E : Value → Shared → Prop} {s : Shared} (h : wpAny M A t Q E s) (hQ : ∀ a s, Q a s → Q' a s) : wpAny M A t Q' E s := wpAny_mono h hQ fun _ _ x => x
end L2

namespace L2
open PySem PySem.Spec PyProof.Rows
section
variable {X : Cx}

/-- two expressions in a row -/
theorem bin {a b : Expr} {ta tb : TE} (ha : PE X a ta) (hb : PE X b tb) {pins : List (Addr × Obj)} {s : Shared} {σ : St} {H : Hp} {R : V → V → Hp → Prop} (I : Inv X pins σ H s) (h : ta σ H fun x H1 => tb σ H1 fun y H2 => R x y H2)
    {α : Type} {Q : α → Shared → Prop} {f : Value → Value → Sem α}
    (hf : ∀ v u s2 x y H2, Inv X pins σ H2 s2 → RelV x v → RelV y u → R x y H2 → wpAny (model X.prog X.w) X.A (f v u) Q X.xe s2) :
    wpAny (model X.prog X.w) X.A (eval a X.env) (fun v s₁ => wpAny (model X.prog X.w) X.A (eval b X.env) (fun u s₂ => wpAny (model X.prog X.w) X.A (f v u) Q X.xe s₂) X.xe s₁) X.xe s := by
  refine thn (ha pins s σ H _ I h) fun v s1 ⟨x, H1, I1, r1, q1⟩ => ?_
  refine thn (hb pins s1 σ H1 _ I1 q1) fun u s2 ⟨y, H2, I2, r2, q2⟩ => ?_
  exact hf v u s2 x y H2 I2 r1 r2 q2

/-! ### names and constants -/
def tVar (i : Nat) : TE := fun σ H Q => ∃ v, σ[i]? = some (some v) ∧ Q v H
def tC (v : V) : TE := fun _ H Q => Q v H
theorem pe_var {i : Nat} {x : Str} {pos : Pos} (hN : X.N[i]? = some x) (hv : Vis X.env.scope x) (hd : (x == ("__debug__" : Str)) = false := by decide) (hcd : (x == ("__classdict__" : Str)) = false := by decide) : PE X (.Name x pos) (tVar i) := by
  intro pins s σ H Q I h
  obtain ⟨v, e, h⟩ := h
  obtain ⟨m, hn, hl⟩ := I.loc
  obtain ⟨u, r, l⟩ := hl i x v hN e hv
  have fin : EP X pins σ Q u s := ⟨v, H, I, r, h⟩
  rcases l with ⟨hk, hm⟩ | ⟨hk, c, hc, hcell⟩
  · exact wpAny_Name (wpAny_loadName_local I.ok.kind hk hn hm fin) hd
  · rcases hk with hk | hk
    · exact wpAny_Name (wpAny_loadName_cell I.ok.kind hk hc hcell fin) hd
    · exact wpAny_Name (wpAny_loadName_free I.ok.kind hk hc hcell fin hcd) hd
theorem pe_int {i j pos} : PE X (.Constant (.int i) j pos) (tC (.int i)) := fun _ _ _ H _ I h => wpAny_Constant_int ⟨.int i, H, I.tok _, ⟨_, rfl⟩, h⟩
theorem pe_bl {b j pos} : PE X (.Constant (.bool b) j pos) (tC (.bl b)) := fun _ _ _ H _ I h => Constant_bool ⟨.bl b, H, I, rfl, h⟩
theorem pe_non {j pos} : PE X (.Constant .none j pos) (tC .non) := fun _ _ _ H _ I h => Constant_none ⟨.non, H, I, rfl, h⟩
theorem pe_str {x j pos} : PE X (.Constant (.str x) j pos) (tC (.str x)) := fun _ _ _ H _ I h => Calls.Constant_str ⟨.str x, H, I.tok _, ⟨_, rfl⟩, h⟩

/-- a global name of the def -/
def Gl (X : Cx) (x : Str) : Prop := X.env.kindOf x = some .globalImplicit
theorem ld_glob {E : Value → Shared → Prop} {pins : List (Addr × Obj)} {s : Shared} {σ : St} {H : Hp} {x : Str} {u : Value} {pos : Pos} {Q : Value → Shared → Prop} (I : Inv X pins σ H s) (hg : Gl X x) (hm : X.mg x = some u) (h : Q u s)
    (hd : (x == ("__debug__" : Str)) = false := by decide) : wpAny (model X.prog X.w) X.A (eval (.Name x pos) X.env) Q E s :=
  Calls.Name_function_global I.ok.kind hg (Calls.loadGlobal_global (by rw [I.ok.glob]; exact I.mod.glob.keeps I.bk) hm h) hd
theorem ld_blt {E : Value → Shared → Prop} {pins : List (Addr × Obj)} {s : Shared} {σ : St} {H : Hp} {x : Str} {u : Value} {pos : Pos} {Q : Value → Shared → Prop} (I : Inv X pins σ H s) (hg : Gl X x) (hm : X.mg x = none) (hv : bootBuiltins x = some u) (h : Q u s)
    (hn : x ≠ "__name__" := by decide) (hd : (x == ("__debug__" : Str)) = false := by decide) : wpAny (model X.prog X.w) X.A (eval (.Name x pos) X.env) Q E s := by
  obtain ⟨mb, h1, h2⟩ := I.mod.blt
  exact Calls.Name_function_global I.ok.kind hg (Calls.loadGlobal_builtin (by rw [I.ok.glob]; exact I.mod.glob.keeps I.bk) hm (by rw [I.ok.blt]; exact h1.keeps I.bk) ((h2 x hn).trans hv) h) hd
/-- a module's constant, a class, a function, as a value -/
theorem pe_glob {x : Str} {v : V} {u : Value} {pos : Pos} (hg : Gl X x) (hm : X.mg x = some u) (r : RelV v u) (hd : (x == ("__debug__" : Str)) = false := by decide) : PE X (.Name x pos) (tC v) :=
  fun _ _ _ H _ I h => ld_glob I hg hm ⟨v, H, I, r, h⟩ hd
theorem pe_bltn {x : Str} {v : V} {u : Value} {pos : Pos} (hg : Gl X x) (hm : X.mg x = none) (hv : bootBuiltins x = some u) (r : RelV v u) (hn : x ≠ "__name__" := by decide) (hd : (x == ("__debug__" : Str)) = false := by decide) : PE X (.Name x pos) (tC v) :=
  fun _ _ _ H _ I h => ld_blt I hg hm hv ⟨v, H, I, r, h⟩ hn hd

/-! ### arithmetic -/
/-- two ints -/
def t2I (ta tb : TE) (k : Int → Int → Hp → Prop) : St → Hp → Prop := fun σ H => ta σ H fun x H1 => tb σ H1 fun y H2 => ∃ i j, x = .int i ∧ y = .int j ∧ k i j H2
def tAdd (ta tb : TE) : TE := fun σ H Q => t2I ta tb (fun i j H2 => Q (.int (i + j)) H2) σ H
def tSub (ta tb : TE) : TE := fun σ H Q => t2I ta tb (fun i j H2 => Q (.int (i - j)) H2) σ H
/-- the left factor below 2^64 -/
def tMul (ta tb : TE) : TE := fun σ H Q => t2I ta tb (fun i j H2 => (-(2 ^ 64) < i ∧ i < 2 ^ 64) ∧ Q (.int (i * j)) H2) σ H
variable {a b : Expr} {ta tb : TE} {pos : Pos}
theorem pe_add (ha : PE X a ta) (hb : PE X b tb) : PE X (.BinOp a .Add b pos) (tAdd ta tb) := by
  intro pins s σ H Q I h
  refine wpAny_BinOp (bin ha hb I h fun v u s2 x y H2 I2 rx ry q => ?_)
  obtain ⟨i, j, rfl, rfl, q⟩ := q
  obtain ⟨t, rfl⟩ := rx
  obtain ⟨t', rfl⟩ := ry
  exact add_int ⟨.int _, H2, I2.tok _, ⟨_, rfl⟩, q⟩
theorem pe_sub (ha : PE X a ta) (hb : PE X b tb) : PE X (.BinOp a .Sub b pos) (tSub ta tb) := by
  intro pins s σ H Q I h
  refine wpAny_BinOp (bin ha hb I h fun v u s2 x y H2 I2 rx ry q => ?_)
  obtain ⟨i, j, rfl, rfl, q⟩ := q
  obtain ⟨t, rfl⟩ := rx
  obtain ⟨t', rfl⟩ := ry
  exact sub_int ⟨.int _, H2, I2.tok _, ⟨_, rfl⟩, q⟩
theorem pe_mul (ha : PE X a ta) (hb : PE X b tb) : PE X (.BinOp a .Mult b pos) (tMul ta tb) := by
  intro pins s σ H Q I h
  refine wpAny_BinOp (bin ha hb I h fun v u s2 x y H2 I2 rx ry q => ?_)
  obtain ⟨i, j, rfl, rfl, ⟨q1, q2⟩, q⟩ := q
  obtain ⟨t, rfl⟩ := rx
  obtain ⟨t', rfl⟩ := ry
  exact mul_int ⟨.int _, H2, I2.tok _, ⟨_, rfl⟩, q⟩ (.of_left (intBits_le_64 q1 q2))

/-! ### comparisons -/
def PC (X : Cx) (op : CmpOp) (a b : Expr) (t : TE) : Prop :=
  ∀ (pins : List (Addr × Obj)) (s : Shared) (σ : St) (H : Hp) (Q : VK), Inv X pins σ H s → t σ H Q →
    wpAny (model X.prog X.w) X.A (eval a X.env) (fun v s₁ => wpAny (model X.prog X.w) X.A (eval b X.env) (fun u s₂ => wpAny (model X.prog X.w) X.A (compareOp op v u) (EP X pins σ Q) X.xe s₂) X.xe s₁) X.xe s
theorem nobehind (b : Expr) {op : CmpOp} (h : op ≠ .In) (h2 : op ≠ .NotIn) : behindInMarks op b = false := by
  have e1 : (op == CmpOp.In) = false := by cases op <;> first | rfl | exact absurd rfl h
  have e2 : (op == CmpOp.NotIn) = false := by cases op <;> first | rfl | exact absurd rfl h2
  cases b <;> simp [behindInMarks, e1, e2]
def tCmp (p : Int → Int → Bool) (ta tb : TE) : TE := fun σ H Q => t2I ta tb (fun i j H2 => Q (.bl (p i j)) H2) σ H
abbrev tLt : TE → TE → TE := tCmp fun i j => decide (i < j)
abbrev tLe : TE → TE → TE := tCmp fun i j => decide (i ≤ j)
abbrev tGt : TE → TE → TE := tCmp fun i j => decide (j < i)
abbrev tGe : TE → TE → TE := tCmp fun i j => decide (j ≤ i)
abbrev tEqI : TE → TE → TE := tCmp fun i j => decide (i = j)
abbrev tNeI : TE → TE → TE := tCmp fun i j => !decide (i = j)
/-- a comparison of two ints, by its rule -/
theorem pc_int {op : CmpOp} {p : Int → Int → Bool} (ha : PE X a ta) (hb : PE X b tb)
    (rule : ∀ (i j : Int) (t u : Tok) (Q : Value → Shared → Prop) (s : Shared), Q (.bool (p i j)) s → wpAny (model X.prog X.w) X.A (compareOp op (.int i t) (.int j u)) Q X.xe s) : PC X op a b (tCmp p ta tb) := by
  intro pins s σ H Q I h
  refine bin ha hb I h fun v u s2 x y H2 I2 rx ry q => ?_
  obtain ⟨i, j, rfl, rfl, q⟩ := q
  obtain ⟨t, rfl⟩ := rx
  obtain ⟨t', rfl⟩ := ry
  exact rule i j t t' _ s2 ⟨.bl _, H2, I2, rfl, q⟩
theorem pc_lt (ha : PE X a ta) (hb : PE X b tb) : PC X .Lt a b (tLt ta tb) := pc_int ha hb fun _ _ _ _ _ _ h => lt_int h
theorem pc_le (ha : PE X a ta) (hb : PE X b tb) : PC X .LtE a b (tLe ta tb) := pc_int ha hb fun _ _ _ _ _ _ h => le_int h
theorem pc_gt (ha : PE X a ta) (hb : PE X b tb) : PC X .Gt a b (tGt ta tb) := pc_int ha hb fun _ _ _ _ _ _ h => gt_int h
theorem pc_ge (ha : PE X a ta) (hb : PE X b tb) : PC X .GtE a b (tGe ta tb) := pc_int ha hb fun _ _ _ _ _ _ h => ge_int h
theorem pc_eqI (ha : PE X a ta) (hb : PE X b tb) : PC X .Eq a b (tEqI ta tb) := pc_int ha hb fun _ _ _ _ _ _ h => eq_int (by rw [Bool.beq_eq_decide_eq]; exact h)
theorem pc_neI (ha : PE X a ta) (hb : PE X b tb) : PC X .NotEq a b (tNeI ta tb) := pc_int ha hb fun _ _ _ _ _ _ h => ne_int (by rw [bne, Bool.beq_eq_decide_eq]; exact h)
/-- is None -/
def tIsN (ta : TE) : TE := fun σ H Q => ta σ H fun x H1 => Q (.bl (decide (x = .non))) H1
def tNotN (ta : TE) : TE := fun σ H Q => ta σ H fun x H1 => Q (.bl (!decide (x = .non))) H1
theorem RelV.none_iff {x : V} {v : Value} (r : RelV x v) : (v == Value.none) = decide (x = .non) := by
  cases x with
  | non => cases r; rfl
  | bl _ => cases r; rfl
  | int _ => obtain ⟨t, rfl⟩ := r; rfl
  | str _ => obtain ⟨t, rfl⟩ := r; rfl
  | byt _ => obtain ⟨t, rfl⟩ := r; rfl
  | flt _ => obtain ⟨t, rfl⟩ := r; rfl
  | ref _ => cases r; rfl
  | ty _ => cases r; rfl
theorem pc_isN {j pos'} (ha : PE X a ta) : PC X .Is a (.Constant .none j pos') (tIsN ta) := by
  intro pins s σ H Q I h
  refine thn (ha pins s σ H _ I h) fun v s1 ⟨x, H1, I1, r1, q1⟩ => ?_
  exact Constant_none (is_none_gen ⟨.bl _, H1, I1, by rw [r1.none_iff]; rfl, q1⟩)
theorem pc_notN {j pos'} (ha : PE X a ta) : PC X .IsNot a (.Constant .none j pos') (tNotN ta) := by
  intro pins s σ H Q I h
  refine thn (ha pins s σ H _ I h) fun v s1 ⟨x, H1, I1, r1, q1⟩ => ?_
  exact Constant_none (isnot_none_gen ⟨.bl _, H1, I1, by rw [r1.none_iff]; rfl, q1⟩)
/-- a comparison as a value, as a test -/
def tB (t : TE) : TT := fun σ H Q => t σ H fun x H1 => ∃ c, x = .bl c ∧ Q c H1
theorem pe_cmp {op : CmpOp} {t : TE} (h : PC X op a b t) (h1 : behindInMarks op b = false := by first | exact nobehind _ (by decide) (by decide) | rfl) : PE X (.Compare a [op] [b] pos) t := fun pins s σ H Q I hw => wpAny_Compare1 (h pins s σ H Q I hw) h1
theorem pt_cmp {op : CmpOp} {t : TE} (h : PC X op a b t) (h1 : behindInMarks op b = false := by first | exact nobehind _ (by decide) (by decide) | rfl) : PT X (.Compare a [op] [b] pos) (tB t) := by
  intro pins s σ H Q I hw
  refine wpAny_isTrue_Compare1 (thn (h pins s σ H _ I hw) fun v s1 h1 => thn h1 fun u s2 h2 => thn h2 fun c s3 ⟨x, H1, I1, r1, q1⟩ => ?_) h1
  obtain ⟨d, rfl, q⟩ := q1
  cases r1
  exact wpAny_truthy_bool ⟨H1, I1, q⟩
/-- an expression whose value is a bool, as a test -/
theorem pt_val {e : Expr} {t : TE} (h : PE X e t) (he : ∀ whole, isTrue e X.env whole = (do let v ← whole; standAt e.pos; holding [v] (truthy v)) := by intro _; rfl) : PT X e (tB t) := by
  intro pins s σ H Q I hw
  refine isTrue_plain (thn (h pins s σ H _ I hw) fun v s1 ⟨x, H1, I1, r1, q1⟩ => ?_) (he _)
  obtain ⟨d, rfl, q⟩ := q1
  cases r1
  exact wpAny_truthy_bool ⟨H1, I1, q⟩

/-! ### and, or, not -/
variable {tA tB' : TT} {rest : List Expr}
def tAnd (t u : TT) : TT := fun σ H Q => t σ H fun c H1 => if c = true then u σ H1 Q else Q false H1
def tOr (t u : TT) : TT := fun σ H Q => t σ H fun c H1 => if c = true then Q true H1 else u σ H1 Q
def tNot (t : TT) : TT := fun σ H Q => t σ H fun c H1 => Q (!c) H1
theorem pw_and1 (ha : PT X a tA) : PW X (.BoolOp .And [a] pos) tA := by
  intro wh pins s σ H Q I h
  refine isTrue_and (thn (ha pins s σ H Q I h) fun c s1 e => ?_)
  cases c with
  | true => exact isTrue_and_nil e
  | false => exact e
theorem pw_or1 (ha : PT X a tA) : PW X (.BoolOp .Or [a] pos) tA := by
  intro wh pins s σ H Q I h
  refine isTrue_or (thn (ha pins s σ H Q I h) fun c s1 e => ?_)
  cases c with
  | false => exact isTrue_or_nil e
  | true => exact e
theorem pw_and (ha : PT X a tA) (hb : PW X (.BoolOp .And (b :: rest) pos) tB') : PW X (.BoolOp .And (a :: b :: rest) pos) (tAnd tA tB') := by
  intro wh pins s σ H Q I h
  refine isTrue_and (thn (ha pins s σ H _ I h) fun c s1 ⟨H1, I1, q1⟩ => ?_)
  cases c with
  | true => exact hb wh pins s1 σ H1 Q I1 q1
  | false => exact ⟨H1, I1, q1⟩
theorem pw_or (ha : PT X a tA) (hb : PW X (.BoolOp .Or (b :: rest) pos) tB') : PW X (.BoolOp .Or (a :: b :: rest) pos) (tOr tA tB') := by
  intro wh pins s σ H Q I h
  refine isTrue_or (thn (ha pins s σ H _ I h) fun c s1 ⟨H1, I1, q1⟩ => ?_)
  cases c with
  | true => exact ⟨H1, I1, q1⟩
  | false => exact hb wh pins s1 σ H1 Q I1 q1
theorem pt_not (ha : PT X a tA) : PT X (.UnaryOp .Not a pos) (tNot tA) := by
  intro pins s σ H Q I h
  exact isTrue_not (ha pins s σ H (fun c H1 => Q (!c) H1) I h)
/-- .. as values (bools) -/
def tAndV (ta tb : TE) : TE := fun σ H Q => ta σ H fun x H1 => ∃ c, x = .bl c ∧ if c = true then tb σ H1 Q else Q (.bl false) H1
def tOrV (ta tb : TE) : TE := fun σ H Q => ta σ H fun x H1 => ∃ c, x = .bl c ∧ if c = true then Q (.bl true) H1 else tb σ H1 Q
def tNotV (ta : TE) : TE := fun σ H Q => ta σ H fun x H1 => ∃ c, x = .bl c ∧ Q (.bl (!c)) H1
theorem pe_one {op} {t : TE} (h : PE X a t) : PE X (.BoolOp op [a] pos) t := fun pins s σ H Q I hw => BoolOp_one (h pins s σ H Q I hw)
theorem pe_and (ha : PE X a ta) (hb : PE X (.BoolOp .And (b :: rest) pos) tb) : PE X (.BoolOp .And (a :: b :: rest) pos) (tAndV ta tb) := by
  intro pins s σ H Q I h
  refine BoolOp_and (thn (ha pins s σ H _ I h) fun v s1 ⟨x, H1, I1, r1, q1⟩ => ?_)
  obtain ⟨c, rfl, q1⟩ := q1
  cases r1
  refine wpAny_truthy_bool ?_
  cases c with
  | true => exact hb pins s1 σ H1 Q I1 q1
  | false => exact ⟨.bl false, H1, I1, rfl, q1⟩
theorem pe_or (ha : PE X a ta) (hb : PE X (.BoolOp .Or (b :: rest) pos) tb) : PE X (.BoolOp .Or (a :: b :: rest) pos) (tOrV ta tb) := by
  intro pins s σ H Q I h
  refine BoolOp_or (thn (ha pins s σ H _ I h) fun v s1 ⟨x, H1, I1, r1, q1⟩ => ?_)
  obtain ⟨c, rfl, q1⟩ := q1
  cases r1
  refine wpAny_truthy_bool ?_
  cases c with
  | false => exact hb pins s1 σ H1 Q I1 q1
  | true => exact ⟨.bl true, H1, I1, rfl, q1⟩
theorem pe_not (ha : PE X a ta) : PE X (.UnaryOp .Not a pos) (tNotV ta) := by
  intro pins s σ H Q I h
  refine UnaryOp_ (thn (ha pins s σ H _ I h) fun v s1 ⟨x, H1, I1, r1, q1⟩ => ?_)
  obtain ⟨c, rfl, q1⟩ := q1
  cases r1
  exact not_of (wpAny_truthy_bool ⟨.bl (!c), H1, I1, rfl, q1⟩)
/-- a if t else b -/
def tIf (t : TT) (ta tb : TE) : TE := fun σ H Q => t σ H fun c H1 => if c = true then ta σ H1 Q else tb σ H1 Q
theorem pe_ifExp {c : Expr} (hc : PT X c tA) (ha : PE X a ta) (hb : PE X b tb) : PE X (.IfExp c a b pos) (tIf tA ta tb) := by
  intro pins s σ H Q I h
  refine wpAny_IfExp (thn (hc pins s σ H _ I h) fun d s1 ⟨H1, I1, q1⟩ => ?_)
  cases d with
  | true => exact ha pins s1 σ H1 Q I1 q1
  | false => exact hb pins s1 σ H1 Q I1 q1
end
end L2

namespace L2
open PySem PySem.Spec PyProof.Rows

/-! ### a list, a tuple that is read: tracked, frozen, or an object of the module -/
def SqL (K : PySem.W.Frag) (H : Hp) (a : Addr) (xs : List V) : Prop :=
  Rd H a (.lst xs) ∨
    ∃ (o : Obj) (its : Array Value) (n : Nat), K.lookup a = some o ∧ o.cls = .type "list" ∧ o.dict = none ∧ o.data = .seq its n ∧ its.size ≤ sizeLine ∧ Vals xs its.toList
def SqT (K : PySem.W.Frag) (H : Hp) (a : Addr) (xs : List V) : Prop :=
  Rd H a (.tup xs) ∨
    ∃ (o : Obj) (its : Array Value) (n : Nat), K.lookup a = some o ∧ o.cls = .type "tuple" ∧ o.data = .seq its n ∧ its.size ≤ sizeLine ∧ Vals xs its.toList
def absV : Value → Option V
  | .none => some .non
  | .bool b => some (.bl b)
  | .int i _ => some (.int i)
  | .str x _ => some (.str x)
  | .bytes b _ => some (.byt b)
  | .float b _ => some (.flt b)
  | .ref a => some (.ref a)
  | .type n => some (.ty n)
  | _ => none
theorem RelV.abs {x : V} {u : Value} (r : RelV x u) : absV u = some x := by
  cases x with
  | non => cases r; rfl
  | bl _ => cases r; rfl
  | int _ => obtain ⟨t, rfl⟩ := r; rfl
  | str _ => obtain ⟨t, rfl⟩ := r; rfl
  | byt _ => obtain ⟨t, rfl⟩ := r; rfl
  | flt _ => obtain ⟨t, rfl⟩ := r; rfl
  | ref _ => cases r; rfl
  | ty _ => cases r; rfl
theorem RelV.inj {x y : V} {u : Value} (r : RelV x u) (q : RelV y u) : x = y := Option.some.inj (r.abs.symm.trans q.abs)
theorem Vals.inj : ∀ {xs ys : List V} {us : List Value}, Vals xs us → Vals ys us → xs = ys
  | _, _, _, .nil, .nil => rfl
  | _, _, _, .cons r t, .cons r' t' => by rw [r.inj r', Vals.inj t t']
section
variable {X : Cx} {pins : List (Addr × Obj)} {σ : St} {H : Hp} {s : Shared} {a : Addr} {xs ys : List V}
theorem SqL.of {K : PySem.W.Frag} (h : H a = some (.lst xs)) : SqL K H a xs := .inl (.inl h)
theorem SqT.of {K : PySem.W.Frag} (h : H a = some (.tup xs)) : SqT K H a xs := .inl (.inl h)
theorem Inv.list (I : Inv X pins σ H s) (h : SqL X.K H a xs) : ∃ its : List Value, Vals xs its ∧ PlainL s.heap a its.toArray ∧ xs.length ≤ sizeLine := by
  rcases h with h | ⟨o, its, n, hk, hc, hd, hs, hz, r⟩
  · obtain ⟨z, its, n, r, e⟩ := h.ok I.hok
    exact ⟨its, r, ⟨_, n, e, rfl, rfl, rfl⟩, z⟩
  · refine ⟨its.toList, r, ⟨o, n, I.kIn a o hk, hc, hd, by simpa using hs⟩, ?_⟩
    have e := r.length
    simp only [Array.length_toList] at e
    omega
theorem Inv.tuple (I : Inv X pins σ H s) (h : SqT X.K H a xs) : ∃ its : List Value, Vals xs its ∧ IsTup s.heap a its.toArray ∧ xs.length ≤ sizeLine := by
  rcases h with h | ⟨o, its, n, hk, hc, hs, hz, r⟩
  · obtain ⟨z, its, r, p⟩ := h.ok I.hok
    exact ⟨its, r, p, z⟩
  · refine ⟨its.toList, r, ⟨o, I.kIn a o hk, hc, n, by simpa using hs⟩, ?_⟩
    have e := r.length
    simp only [Array.length_toList] at e
    omega
theorem Inv.list_inj (I : Inv X pins σ H s) (h : SqL X.K H a xs) (h' : SqL X.K H a ys) : xs = ys := by
  obtain ⟨its, r, ⟨o, n, e, _, _, d⟩, _⟩ := I.list h
  obtain ⟨its', r', ⟨o', n', e', _, _, d'⟩, _⟩ := I.list h'
  rw [e] at e'; cases e'
  rw [d] at d'
  injection d' with d1 _
  have : its = its' := by simpa using congrArg Array.toList d1
  subst this
  exact r.inj r'
theorem Inv.tuple_inj (I : Inv X pins σ H s) (h : SqT X.K H a xs) (h' : SqT X.K H a ys) : xs = ys := by
  obtain ⟨its, r, ⟨o, e, _, n, d⟩, _⟩ := I.tuple h
  obtain ⟨its', r', ⟨o', e', _, n', d'⟩, _⟩ := I.tuple h'
  rw [e] at e'; cases e'
  rw [d] at d'
  injection d' with d1 _
  have : its = its' := by simpa using congrArg Array.toList d1
  subst this
  exact r.inj r'
end

/-! ### another wish about exceptions -/
abbrev Cx.wish (X : Cx) (E : Value → Shared → Prop) : Cx := { X with xe := E }
/-- no exception leaves -/
abbrev Cx.nox (X : Cx) : Cx := X.wish fun _ _ => False
theorem Cx.Ok.wish {X : Cx} (ok : X.Ok) (E : Value → Shared → Prop) : (X.wish E).Ok :=
  ⟨ok.mod, ok.kind, ok.glob, ok.blt, ok.above, ok.inj, ok.has, ok.cab, ok.hd, ok.frames, ok.stk, ok.exf, ok.bs, ok.bsz, ok.noex, ok.exfs, ok.funs, ok.frf⟩
theorem Cx.Ok.unwish {X : Cx} {E : Value → Shared → Prop} (ok : (X.wish E).Ok) : X.Ok :=
  ⟨ok.mod, ok.kind, ok.glob, ok.blt, ok.above, ok.inj, ok.has, ok.cab, ok.hd, ok.frames, ok.stk, ok.exf, ok.bs, ok.bsz, ok.noex, ok.exfs, ok.funs, ok.frf⟩
section
variable {X : Cx} {pins : List (Addr × Obj)} {σ : St} {H : Hp} {s : Shared} {E : Value → Shared → Prop}
theorem Inv.wish (I : Inv X pins σ H s) (E : Value → Shared → Prop) : Inv (X.wish E) pins σ H s := ⟨I.ok.wish E, I.os, I.bare, I.base, I.loc, I.cell, I.free, I.freeC, I.pin, I.hok, I.len⟩
theorem Inv.unwish (I : Inv (X.wish E) pins σ H s) : Inv X pins σ H s := ⟨I.ok.unwish, I.os, I.bare, I.base, I.loc, I.cell, I.free, I.freeC, I.pin, I.hok, I.len⟩
theorem SP.unwish {D : Ends} {f : Flow} {s' : Shared} (h : SP (X.wish E) pins D f s') : SP X pins D f s' := by
  cases f with
  | next => obtain ⟨σ', H', I, q⟩ := h; exact ⟨σ', H', I.unwish, q⟩
  | brk => obtain ⟨σ', H', I, q⟩ := h; exact ⟨σ', H', I.unwish, q⟩
  | cont => obtain ⟨σ', H', I, q⟩ := h; exact ⟨σ', H', I.unwish, q⟩
  | ret u => obtain ⟨v, σ', H', I, r, q⟩ := h; exact ⟨v, σ', H', I.unwish, r, q⟩
theorem PE.nox {e : Expr} {t : TE} (h : PE X.nox e t) : PE X e t := fun pins s σ H Q I hw =>
  wpAny_mono (h pins s σ H Q (I.wish _) hw) (fun _ _ ⟨v, H', I', r, q⟩ => ⟨v, H', I'.unwish, r, q⟩) fun _ _ z => False.elim z
theorem PT.nox {e : Expr} {t : TT} (h : PT X.nox e t) : PT X e t := fun pins s σ H Q I hw =>
  wpAny_mono (h pins s σ H Q (I.wish _) hw) (fun _ _ ⟨H', I', q⟩ => ⟨H', I'.unwish, q⟩) fun _ _ z => False.elim z
theorem PSs.nox {st : List Stmt} {t : TS} (h : PSs X.nox st t) : PSs X st t := fun pins s σ H D I hw =>
  wpAny_mono (h pins s σ H D (I.wish _) hw) (fun _ _ q => q.unwish) fun _ _ z => False.elim z
end

/-! ### blocks and small statements -/
section
variable {X : Cx} {st : Stmt} {rest : List Stmt} {t u : TS} {e : Expr} {te : TE} {pos : Pos}
def tNext : TS := fun D σ H => D.nx σ H
def tSeq (t u : TS) : TS := fun D σ H => t { D with nx := u D } σ H
theorem pss_nil : PSs X [] tNext := fun _ _ σ H _ I h => wpAny_execs_nil ⟨σ, H, I, h⟩
theorem pss_cons (h1 : PS X st t) (h2 : PSs X rest u) : PSs X (st :: rest) (tSeq t u) := by
  intro pins s σ H D I h
  refine wpAny_execs_cons (thn (h1 pins s σ H { D with nx := u D } I h) fun f s1 q => ?_)
  cases f with
  | next =>
    obtain ⟨σ', H', I', q⟩ := q
    exact h2 pins s1 σ' H' D I' q
  | ret v => exact q
  | brk => exact q
  | cont => exact q
theorem pss_one (h1 : PS X st t) : PSs X [st] t := by
  intro pins s σ H D I h
  refine wpAny_execs_cons (thn (h1 pins s σ H D I h) fun f s1 q => ?_)
  cases f with
  | next => exact wpAny_execs_nil q
  | ret v => exact q
  | brk => exact q
  | cont => exact q
def tBreak : TS := fun D σ H => D.bk σ H
def tCont : TS := fun D σ H => D.ct σ H
theorem ps_pass : PS X (.Pass pos) tNext := fun _ _ σ H _ I h => wpAny_Pass ⟨σ, H, I, h⟩
theorem ps_break : PS X (.Break pos) tBreak := fun _ _ σ H _ I h => wpAny_Break ⟨σ, H, I, h⟩
theorem ps_continue : PS X (.Continue pos) tCont := fun _ _ σ H _ I h => wpAny_Continue ⟨σ, H, I, h⟩
/-- in a def's body nothing is shown -/
theorem Inv.quiet {pins : List (Addr × Obj)} {σ : St} {H : Hp} {s : Shared} (I : Inv X pins σ H s) : interactive X.env = false := by simp [interactive, I.ok.kind]
/-- a docstring -/
theorem ps_doc {x j pos pos'} : PS X (.Expr (.Constant (.str x) j pos) pos') tNext := fun _ s σ H _ I h => wpAny_Expr (Calls.Constant_str (show SP X _ _ .next { s with toks := s.toks + 1 } from ⟨σ, H, I.tok _, h⟩)) I.quiet
/-- an expression whose value is dropped -/
def tDrop (te : TE) : TS := fun D σ H => te σ H fun _ H1 => D.nx σ H1
theorem ps_expr (he : PE X e te) (hs : swapsWith e none pos.line X.env = pure false := by rfl) : PS X (.Expr e pos) (tDrop te) := by
  intro pins s σ H D I h
  exact wpAny_Expr_any (thn (he pins s σ H _ I h) fun v s1 ⟨x, H1, I1, r1, q1⟩ => ⟨σ, H1, I1, q1⟩) I.quiet hs
def tRet (te : TE) : TS := fun D σ H => te σ H D.rt
theorem ps_ret (he : PE X e te) : PS X (.Return (some e) pos) (tRet te) := by
  intro pins s σ H D I h
  exact wpAny_Return_some (thn (he pins s σ H _ I h) fun v s1 ⟨x, H1, I1, r1, q1⟩ => ⟨x, σ, H1, I1, r1, q1⟩)
def tRetN : TS := fun D _ H => D.rt .non H
theorem ps_retN : PS X (.Return none pos) tRetN := fun _ _ σ H _ I h => wpAny_Return_none ⟨.non, σ, H, I, rfl, h⟩
def tIfS (c : TT) (t u : TS) : TS := fun D σ H => c σ H fun b H1 => if b = true then t D σ H1 else u D σ H1
theorem ps_if {c : Expr} {a b : List Stmt} {tc : TT} (hc : PT X c tc) (ha : PSs X a t) (hb : PSs X b u) : PS X (.If c a b pos) (tIfS tc t u) := by
  intro pins s σ H D I h
  refine wpAny_If (thn (hc pins s σ H _ I h) fun d s1 ⟨H1, I1, q1⟩ => ?_)
  cases d with
  | true => exact ha pins s1 σ H1 D I1 q1
  | false => exact hb pins s1 σ H1 D I1 q1
/-- code that the proof never comes to -/
def tNever : TS := fun _ _ _ => False
theorem ps_never : PS X st tNever := fun _ _ _ _ _ _ h => h.elim
theorem pss_never {sts : List Stmt} : PSs X sts tNever := fun _ _ _ _ _ _ h => h.elim
end

/-! ### targets -/
abbrev TG := V → St → Hp → (St → Hp → Prop) → Prop
abbrev TGs := List V → St → Hp → (St → Hp → Prop) → Prop
def PG (X : Cx) (target : Expr) (t : TG) : Prop :=
  ∀ (pins : List (Addr × Obj)) (s : Shared) (σ : St) (H : Hp) (v : V) (u : Value) (Q : St → Hp → Prop), Inv X pins σ H s → RelV v u → t v σ H Q →
    wpAny (model X.prog X.w) X.A (assign target X.env u) (fun _ s' => ∃ σ' H', Inv X pins σ' H' s' ∧ Q σ' H') X.xe s
/-- several targets, one after another -/
def PGs (X : Cx) (ts : List Expr) (t : TGs) : Prop :=
  ∀ (pins : List (Addr × Obj)) (s : Shared) (σ : St) (H : Hp) (vs : List V) (us : List Value) (Q : St → Hp → Prop), Inv X pins σ H s → Vals vs us → t vs σ H Q →
    wpAny (model X.prog X.w) X.A (assignInOrder ((assignEach ts X.env).map (·.2)) us) (fun _ s' => ∃ σ' H', Inv X pins σ' H' s' ∧ Q σ' H') X.xe s
/-- o[i] = v, by values -/
abbrev TSet := V → V → V → Hp → (Hp → Prop) → Prop
def PSet (X : Cx) (t : TSet) : Prop :=
  ∀ (pins : List (Addr × Obj)) (s : Shared) (σ : St) (H : Hp) (o i v : V) (ov iv u : Value) (Q : Hp → Prop), Inv X pins σ H s → RelV o ov → RelV i iv → RelV v u → t o i v H Q →
    wpAny (model X.prog X.w) X.A (setItem ov iv u) (fun _ s' => ∃ H', Inv X pins σ H' s' ∧ Q H') X.xe s
/-- a op= b, by values -/
abbrev TIp := V → V → Hp → VK → Prop
def PIp (X : Cx) (op : Operator) (t : TIp) : Prop :=
  ∀ (pins : List (Addr × Obj)) (s : Shared) (σ : St) (H : Hp) (x y : V) (v u : Value) (Q : VK), Inv X pins σ H s → RelV x v → RelV y u → t x y H Q →
    wpAny (model X.prog X.w) X.A (inplaceOp op v u) (EP X pins σ Q) X.xe s
section
variable {X : Cx} {pos : Pos}
def gName (i : Nat) : TG := fun v σ H Q => Q (σ.set i (some v)) H
theorem pg_name {i : Nat} {x : Str} (hN : X.N.Nodup) (hi : X.N[i]? = some x) (hx : Loc X.env.scope x) (hf : X.fn x = true ∨ X.env.scope.names.lookup x = some .local := by first | exact .inl rfl | exact .inr rfl | assumption) : PG X (.Name x pos) (gName i) := by
  intro pins s σ H v u Q I r h
  exact wpAny_assign_Name (store_ok I hN hi hx r (fun s' I' => ⟨_, H, I', h⟩) hf)
def gNil : TGs := fun vs σ H Q => vs = [] ∧ Q σ H
def gCons (t : TG) (u : TGs) : TGs := fun vs σ H Q => ∃ v r, vs = v :: r ∧ t v σ H fun σ' H' => u r σ' H' Q
theorem pgs_nil : PGs X [] gNil := by
  intro pins s σ H vs us Q I r h
  obtain ⟨e, h⟩ := h
  subst e
  cases r
  exact assignInOrder_nil ⟨σ, H, I, h⟩
theorem pgs_cons {e : Expr} {es : List Expr} {t : TG} {u : TGs} (h1 : PG X e t) (h2 : PGs X es u)
    (hs : (assignEach (e :: es) X.env).map (·.2) = assign e X.env :: (assignEach es X.env).map (·.2) := by rfl) : PGs X (e :: es) (gCons t u) := by
  intro pins s σ H vs us Q I r h
  obtain ⟨v, vr, e1, h⟩ := h
  subst e1
  cases r with
  | cons r rr =>
    rw [hs]
    refine assignInOrder_cons (thn (h1 pins s σ H _ _ _ I r h) fun _ s1 ⟨σ1, H1, I1, q1⟩ => ?_)
    exact h2 pins s1 σ1 H1 _ _ Q I1 rr q1
/-- (a, b, ..) = a tuple of that length -/
def gTup (K : PySem.W.Frag) (n : Nat) (t : TGs) : TG := fun v σ H Q => ∃ a xs, v = .ref a ∧ SqT K H a xs ∧ xs.length = n ∧ t xs σ H Q
theorem pg_tup {es : List Expr} {k : Nat} {t : TGs} {n : Nat} (hc : X.calm = true) (h : PGs X es t)
    (hn : (assignEach es X.env).length = n := by rfl) (hst : (assignEach es X.env).findIdx? (·.1) = none := by rfl) : PG X (.Tuple es k pos) (gTup X.K n t) := by
  intro pins s σ H v u Q I r hw
  obtain ⟨a, xs, e1, hq, hl, hw⟩ := hw
  subst e1
  cases r
  obtain ⟨its, rv, ht, hz⟩ := I.tuple hq
  refine assign_Tuple_tuple (I.ok.hd hc) ht (by simp [hn, ← hl, rv.length]) hst fun h' hx => ?_
  have I1 : Inv X pins σ H { s with heap := h' } := I.kept (t' := s.toks) fun b o e => hx b o (Nat.ne_of_lt (Heap.lt_size e)) e
  exact h pins _ σ H xs _ Q I1 (by simpa using rv) hw
/-- o[i] = .. -/
def gSub (to ti : TE) (t : TSet) : TG := fun v σ H Q => to σ H fun o H1 => ti σ H1 fun i H2 => t o i v H2 fun H3 => Q σ H3
theorem pg_sub {o i : Expr} {to ti : TE} {t : TSet} (ho : PE X o to) (hi : PE X i ti) (hs : PSet X t)
    (ha : ∀ v, assign (.Subscript o i pos) X.env v = (do
      let ov ← holding [v] (eval o X.env)
      let iv ← holding [v, ov] (eval i X.env)
      standAt pos
      holding [v, ov, iv] (setItem ov iv v)
      release [v, ov, iv] []) := by intro _; rfl) : PG X (.Subscript o i pos) (gSub to ti t) := by
  intro pins s σ H v u Q I r h
  rw [ha]
  refine wpAny_bind (wpAny_holding (thn (ho pins s σ H _ I h) fun ov s1 ⟨x, H1, I1, r1, q1⟩ => ?_))
  refine wpAny_bind (wpAny_holding (thn (hi pins s1 σ H1 _ I1 q1) fun iv s2 ⟨y, H2, I2, r2, q2⟩ => ?_))
  refine wpAny_bind (wpAny_standAt (wpAny_bind (wpAny_holding (thn (hs pins s2 σ H2 x y v ov iv u _ I2 r1 r2 r q2) fun _ s3 ⟨H3, I3, q3⟩ => ?_))))
  exact wpAny_release ⟨σ, H3, I3, q3⟩
/-- target = value -/
def tAsg (te : TE) (g : TG) : TS := fun D σ H => te σ H fun x H1 => g x σ H1 D.nx
theorem ps_asg {tg e : Expr} {te : TE} {g : TG} (he : PE X e te) (hg : PG X tg g) (hs : swapsWithSole [tg] e pos.line X.env = pure false := by rfl) (hw : swappedStores [tg] e X.env = pure none := by rfl)
    (h1 : (assignEach [tg] X.env).map (·.2) = [assign tg X.env] := by rfl) : PS X (.Assign [tg] e pos) (tAsg te g) := by
  intro pins s σ H D I h
  refine wpAny_Assign_stores (thn (he pins s σ H _ I h) fun v s1 ⟨x, H1, I1, r1, q1⟩ => ?_) hs hw
  rw [h1]
  exact thn (hg pins s1 σ H1 x v _ I1 r1 q1) fun _ s2 q => q
/-- name = value -/
theorem ps_set {i : Nat} {x : Str} {e : Expr} {te : TE} {pos' : Pos} (hN : X.N.Nodup) (hi : X.N[i]? = some x) (hx : Loc X.env.scope x) (he : PE X e te) (hs : swapsWith e (some (.Name x pos')) pos.line X.env = pure false := by rfl) (hf : X.fn x = true ∨ X.env.scope.names.lookup x = some .local := by first | exact .inl rfl | exact .inr rfl | assumption) :
    PS X (.Assign [.Name x pos'] e pos) (tAsg te (gName i)) := by
  intro pins s σ H D I h
  refine wpAny_Assign_Name (thn (he pins s σ H _ I h) fun v s1 ⟨y, H1, I1, r1, q1⟩ => ?_) hs
  exact store_ok I1 hN hi hx r1 (fun s2 I2 => ⟨_, H1, I2, q1⟩) hf
/-- a, b = x, y with plain local names: stored from the right; the pair itself is not tracked (the opening rows as in PyProof/Rows/TupAssign.lean:23) -/
def tPar (i j : Nat) (ta : TA) : TS := fun D σ H => ta σ H fun vs H1 => ∃ v w, vs = [v, w] ∧ D.nx ((σ.set i (some v)).set j (some w)) H1
theorem ps_par {i j : Nat} {x y : Str} {a b : Expr} {ta : TA} {px py pt : Pos} {kt k2 pt2} (hc : X.calm = true) (hN : X.N.Nodup) (hi : X.N[i]? = some x) (hj : X.N[j]? = some y) (hij : i ≠ j)
    (hx : X.env.scope.names.lookup x = some .local) (hy : X.env.scope.names.lookup y = some .local) (ha : PA X [a, b] ta)
    (hw : swappedStores [.Tuple [.Name x px, .Name y py] kt pt] (.Tuple [a, b] k2 pt2) X.env = pure (some [x, y]))
    (hs : swapsWithSole [.Tuple [.Name x px, .Name y py] kt pt] (.Tuple [a, b] k2 pt2) pos.line X.env = pure false := by rfl) :
    PS X (.Assign [.Tuple [.Name x px, .Name y py] kt pt] (.Tuple [a, b] k2 pt2) pos) (tPar i j ta) := by
  intro pins s σ H D I h
  rw [exec_Assign_arm]
  refine wpAny_bind (wpAny_standAt ?_)
  rw [hs]
  refine wpAny_bind (wpAny_pure ?_)
  rw [if_neg (by decide)]
  refine wpAny_bind (Tuple_ (thn (ha _ pins s σ H _ I h) fun us s1 ⟨vs, H1, I1, r1, q1⟩ => ?_))
  obtain ⟨v, w, e1, q1⟩ := q1
  subst e1
  obtain ⟨u1, u2, rfl, rv, rw'⟩ : ∃ u1 u2, us = [u1, u2] ∧ RelV v u1 ∧ RelV w u2 := by
    cases r1 with
    | cons p q =>
      cases q with
      | cons p' q' =>
        cases q'
        exact ⟨_, _, rfl, p, p'⟩
  refine wpAny_newObj_type ?_ (by show 2 ≤ sizeLine; decide)
  have I2 : Inv X pins σ H1 { s1 with heap := s1.heap.push { cls := .type "tuple", data := .seq [u1, u2].toArray } } := I1.kept (t' := s1.toks) fun b o e => Heap.get?_push_of_some _ e
  rw [hw]
  refine wpAny_bind (wpAny_pure ?_)
  show wpAny (model X.prog X.w) X.A (do rule "assign.swapped-stores"; let items ← unpackItems (.ref s1.heap.objs.size) 2 none; assignInOrder [fun v => bindName X.env y v, fun v => bindName X.env x v] items.reverse; pure Flow.next) _ _ _
  refine wpAny_bind (wpAny_rule (wpAny_bind (unpackItems_tuple (items := #[u1, u2]) (I.ok.hd hc) (IsTup.new s1.heap _) fun h' hx' => ?_)))
  have I3 := I2.kept (h' := h') (t' := s1.toks) fun b o e => hx' b o (Nat.ne_of_lt (Heap.lt_size e)) e
  show wpAny _ _ (assignInOrder [fun v => bindName X.env y v, fun v => bindName X.env x v] [u2, u1] >>= fun _ => pure Flow.next) _ _ _
  refine wpAny_bind (assignInOrder_cons (wpAny_bindName (store_ok I3 hN hj (.inl hy) rw' (fun s2 I4 => ?_) (.inr hy))))
  refine assignInOrder_cons (wpAny_bindName (store_ok I4 hN hi (.inl hx) rv (fun s3 I5 => assignInOrder_nil (wpAny_pure ?_)) (.inr hx)))
  rw [List.set_comm _ _ (Ne.symm hij)] at I5
  exact ⟨_, H1, I5, q1⟩
/-- name op= e -/
def tAug (i : Nat) (te : TE) (ti : TIp) : TS := fun D σ H => ∃ x, σ[i]? = some (some x) ∧ te σ H fun y H1 => ti x y H1 fun z H2 => D.nx (σ.set i (some z)) H2
theorem ps_aug {i : Nat} {x : Str} {e : Expr} {te : TE} {op : Operator} {ti : TIp} {pos' : Pos} (hN : X.N.Nodup) (hi : X.N[i]? = some x) (hx : Loc X.env.scope x) (he : PE X e te) (ho : PIp X op ti) (hf : X.fn x = true ∨ X.env.scope.names.lookup x = some .local := by first | exact .inl rfl | exact .inr rfl | assumption) :
    PS X (.AugAssign (.Name x pos') op e pos) (tAug i te ti) := by
  intro pins s σ H D I h
  obtain ⟨v, e1, h⟩ := h
  obtain ⟨m, hn, hl⟩ := I.loc
  have vis : Vis X.env.scope x := by rcases hx with k | k; exact .inl k; exact .inr (.inl k)
  obtain ⟨u, r, l⟩ := hl i x v hi e1 vis
  refine wpAny_AugAssign_Name ?_
  have go : wpAny (model X.prog X.w) X.A (eval e X.env) (fun w s₂ => wpAny (model X.prog X.w) X.A (inplaceOp op u w) (fun r s₃ => wpAny (model X.prog X.w) X.A (storeName X.env x r) (fun _ => SP X pins D .next) X.xe s₃) X.xe s₂) X.xe s := by
    refine thn (he pins s σ H _ I h) fun w s1 ⟨y, H1, I1, r1, q1⟩ => ?_
    refine thn (ho pins s1 σ H1 v y u w _ I1 r r1 q1) fun z s2 ⟨zv, H2, I2, r2, q2⟩ => ?_
    exact store_ok I2 hN hi hx r2 (fun s3 I3 => ⟨_, H2, I3, q2⟩) hf
  rcases l with ⟨hk, hm⟩ | ⟨hk, c, hc, hcell⟩
  · exact wpAny_loadName_local I.ok.kind hk hn hm go
  · rcases hk with hk | hk
    · exact wpAny_loadName_cell I.ok.kind hk hc hcell go
    · rcases hx with k | k
      · have : X.env.scope.names.lookup x = some .free := hk
        rw [k] at this; cases this
      · have : X.env.scope.names.lookup x = some .free := hk
        rw [k] at this; cases this
/-- o[i] op= e -/
def tAugS (to ti te : TE) (tget : V → V → Hp → VK → Prop) (tip : TIp) (tset : TSet) : TS := fun D σ H => to σ H fun o H1 => ti σ H1 fun i H2 => tget o i H2 fun x H3 => te σ H3 fun y H4 => tip x y H4 fun z H5 => tset o i z H5 fun H6 => D.nx σ H6
/-- o[i], by values -/
def PGet (X : Cx) (t : V → V → Hp → VK → Prop) : Prop :=
  ∀ (pins : List (Addr × Obj)) (s : Shared) (σ : St) (H : Hp) (o i : V) (ov iv : Value) (Q : VK), Inv X pins σ H s → RelV o ov → RelV i iv → t o i H Q →
    wpAny (model X.prog X.w) X.A (getItem ov iv) (EP X pins σ Q) X.xe s
theorem ps_augS {o i e : Expr} {to ti te : TE} {tget : V → V → Hp → VK → Prop} {tip : TIp} {tset : TSet} {op : Operator} {tpos : Pos} (ho : PE X o to) (hi : PE X i ti) (hg : PGet X tget) (he : PE X e te) (hp : PIp X op tip) (hs : PSet X tset)
    (ha : ∀ ov iv new, augStore i ov iv new = (do holding [new, ov, iv] (setItem ov iv new); release [new, ov, iv] []; pure .next) := by intros; rfl) : PS X (.AugAssign (.Subscript o i tpos) op e pos) (tAugS to ti te tget tip tset) := by
  intro pins s σ H D I h
  refine wpAny_AugAssign_SubscriptAny (thn (ho pins s σ H _ I h) fun ov s1 ⟨x1, H1, I1, r1, q1⟩ => ?_) ha
  refine thn (hi pins s1 σ H1 _ I1 q1) fun iv s2 ⟨x2, H2, I2, r2, q2⟩ => ?_
  refine thn (hg pins s2 σ H2 x1 x2 ov iv _ I2 r1 r2 q2) fun old s3 ⟨x3, H3, I3, r3, q3⟩ => ?_
  refine thn (he pins s3 σ H3 _ I3 q3) fun v s4 ⟨x4, H4, I4, r4, q4⟩ => ?_
  refine thn (hp pins s4 σ H4 x3 x4 old v _ I4 r3 r4 q4) fun new s5 ⟨x5, H5, I5, r5, q5⟩ => ?_
  exact thn (hs pins s5 σ H5 x1 x2 x5 ov iv new _ I5 r1 r2 r5 q5) fun _ s6 ⟨H6, I6, q6⟩ => ⟨σ, H6, I6, q6⟩
/-- ints -/
def ipI (f : Int → Int → Int) : TIp := fun x y H Q => ∃ i j, x = .int i ∧ y = .int j ∧ Q (.int (f i j)) H
theorem ip_add : PIp X .Add (ipI fun i j => i + j) := by
  intro pins s σ H x y v u Q I r1 r2 h
  obtain ⟨i, j, e1, e2, q⟩ := h
  subst e1; subst e2
  obtain ⟨t, rfl⟩ := r1
  obtain ⟨t', rfl⟩ := r2
  exact iadd_int ⟨.int _, H, I.tok _, ⟨_, rfl⟩, q⟩
theorem ip_sub : PIp X .Sub (ipI fun i j => i - j) := by
  intro pins s σ H x y v u Q I r1 r2 h
  obtain ⟨i, j, e1, e2, q⟩ := h
  subst e1; subst e2
  obtain ⟨t, rfl⟩ := r1
  obtain ⟨t', rfl⟩ := r2
  exact isub_int ⟨.int _, H, I.tok _, ⟨_, rfl⟩, q⟩
end

/-! ### while -/
section
variable {X : Cx} {pos : Pos}
/-- the invariant W with its measure -/
def tWhile (c : TT) (tb : TS) : TS := fun D σ H => ∃ W : Nat → St → Hp → Prop, (∃ m, W m σ H) ∧ ∀ m σ H, W m σ H →
  c σ H fun b H1 => if b = true then ∃ N : St → Hp → Prop, (∀ σ' H', N σ' H' → ∃ m', m' < m ∧ W m' σ' H') ∧ tb { D with nx := N, ct := N, bk := D.nx } σ H1 else D.nx σ H1
theorem ps_while {c : Expr} {body : List Stmt} {tc : TT} {tb : TS} (hp : PassesOwn (model X.prog X.w) X.A X.env X.xe) (hc : PT X c tc) (hb : PSs X body tb) : PS X (.While c body [] pos) (tWhile tc tb) := by
  intro pins s σ H D I h
  obtain ⟨W, ⟨m0, w0⟩, turn⟩ := h
  refine wpAny_While (codeAny_whileLoop (fun n s' => ∃ σ' H', Inv X pins σ' H' s' ∧ W n σ' H') ?_ m0 ⟨σ, H, I, w0⟩)
  rintro n s1 ⟨σ1, H1, I1, w1⟩
  refine wpAny_passesOwn hp (thn (hc pins s1 σ1 H1 _ I1 (turn n σ1 H1 w1)) fun b s2 ⟨H2, I2, q2⟩ => ?_)
  cases b with
  | true =>
    obtain ⟨N, hN, q2⟩ := q2
    rw [if_pos rfl]
    refine wpAny_passesOwn hp (thn (hb pins s2 σ1 H2 _ I2 q2) fun f s3 q3 => ?_)
    cases f with
    | next =>
      obtain ⟨σ3, H3, I3, n3⟩ := q3
      obtain ⟨m', hm, w3⟩ := hN σ3 H3 n3
      exact ⟨m', hm, σ3, H3, I3, w3⟩
    | cont =>
      obtain ⟨σ3, H3, I3, n3⟩ := q3
      obtain ⟨m', hm, w3⟩ := hN σ3 H3 n3
      exact ⟨m', hm, σ3, H3, I3, w3⟩
    | brk => exact q3
    | ret v => exact q3
  | false =>
    rw [if_neg Bool.false_ne_true]
    exact wpAny_execs_nil ⟨σ1, H2, I2, q2⟩
end

/-! ### what a loop or a comprehension walks -/
/-- at turn i: it yields x (the heap may grow), or it stops -/
structure It where
  go : Nat → Hp → Prop
  yld : Nat → Hp → V → Hp → Prop
  stop : Nat → Hp → Prop
/-- the iterator's own objects may turn: they are not the frame's, not pinned, younger than the entry (or a comprehension's own) -/
def FpOk (X : Cx) (pins : List (Addr × Obj)) (H : Hp) (b : Addr) : Prop :=
  H b = none ∧ b ≠ X.env.locals ∧ b ∉ X.fs ∧ (b ∈ X.ex ∨ X.s₀.heap.objs.size ≤ b) ∧ (∀ x c, X.env.cells.lookup x = some c → c ≠ b) ∧ ∀ p ∈ X.pn ++ pins, p.1 ≠ b
theorem Inv.fpOk {X : Cx} {pins : List (Addr × Obj)} {σ : St} {H H' : Hp} {s : Shared} {b : Addr} (I : Inv X pins σ H s) (hb : s.heap.objs.size ≤ b) (hn : H' b = none) : FpOk X pins H' b := by
  refine ⟨hn, Nat.ne_of_gt (Nat.lt_of_lt_of_le I.lt hb), I.nofs hb, .inr (Nat.le_trans I.sz hb), fun x c e z => ?_, fun p hp z => ?_⟩
  · obtain ⟨v, q⟩ := I.cell x c e
    exact absurd (Nat.lt_of_lt_of_le q.lt (by rw [z]; exact hb)) (Nat.lt_irrefl _)
  · exact absurd (Nat.lt_of_lt_of_le (Heap.lt_size (I.pin p hp).1) (by rw [z]; exact hb)) (Nat.lt_irrefl _)
structure Turn (P : Program) (w : World) (K : PySem.W.Frag) (tg : Expr) (J : It) (fp : List Addr) (it : Addr) (tn : Nat → Heap → Prop) : Prop where
  mem : it ∈ fp
  obj : ∀ i h, tn i h → ∀ b ∈ fp, ∃ o, h.get? b = some o ∧ ∀ v, o.data ≠ .cell v
  keep : ∀ i h h', tn i h → (∀ b ∈ fp, ∀ o, h.get? b = some o → h'.get? b = some o) → tn i h'
  item : ∀ (X : Cx), X.prog = P → X.w = w → X.K = K → X.calm = true → ∀ (i : Nat) (pins : List (Addr × Obj)) (s : Shared) (σ : St) (H : Hp) (E : Value → Shared → Prop), Inv X pins σ H s → (∀ b ∈ fp, FpOk X pins H b) → tn i s.heap → J.go i H →
    wpAny (model P w) X.A (pyNext (.ref it)) (fun r s1 => ∃ u, r = some u ∧
      wpAny (model P w) X.A (letOwnedTupleGo tg (.ref it) u) (fun _ s2 => ∃ x H', Inv X pins σ H' s2 ∧ RelV x u ∧ J.yld i H x H' ∧ tn (i + 1) s2.heap ∧ ∀ b ∈ fp, H' b = none) E s1) E s
  done : ∀ (X : Cx), X.prog = P → X.w = w → X.K = K → X.calm = true → ∀ (i : Nat) (pins : List (Addr × Obj)) (s : Shared) (σ : St) (H : Hp) (E : Value → Shared → Prop), Inv X pins σ H s → (∀ b ∈ fp, FpOk X pins H b) → tn i s.heap → J.stop i H →
    wpAny (model P w) X.A (pyNext (.ref it)) (fun r s1 => r = none ∧ Inv X pins σ H s1) E s
  self : ∀ (A : Around) (i : Nat) (s : Shared) (Q : Value → Shared → Prop) (E : Value → Shared → Prop), tn i s.heap → Q (.ref it) s → wpAny (model P w) A (pyIter (.ref it)) Q E s
abbrev TI := St → Hp → (It → Hp → Prop) → Prop
/-- an iterator has come -/
def PIE (X : Cx) (pins : List (Addr × Obj)) (σ : St) (tg : Expr) (R : It → Hp → Prop) (itv : Value) (s2 : Shared) : Prop :=
  ∃ (it : Addr) (fp : List Addr) (tn : Nat → Heap → Prop) (J : It) (H' : Hp), itv = .ref it ∧ Inv X pins σ H' s2 ∧ Turn X.prog X.w X.K tg J fp it tn ∧ tn 0 s2.heap ∧ (∀ b ∈ fp, FpOk X pins H' b) ∧ R J H'
def PI (X : Cx) (tg iter : Expr) (wi : TI) : Prop :=
  ∀ (pins : List (Addr × Obj)) (s : Shared) (σ : St) (H : Hp) (R : It → Hp → Prop), Inv X pins σ H s → wi σ H R →
    wpAny (model X.prog X.w) X.A (eval iter X.env) (fun v s1 => wpAny (model X.prog X.w) X.A (pyIter v) (PIE X pins σ tg R) X.xe s1) X.xe s

/-- the step ahead of the store is nothing for an iterator that keeps no tuple -/
theorem go_of {M : Model} {A : Around} {E : Value → Shared → Prop} {s : Shared} {tg : Expr} {it : Addr} {u : Value} {o : Obj} {n : String} {vs : Array Value} {Q : Unit → Shared → Prop} (ho : s.heap.get? it = some o) (hc : o.cls = .type n) (hd : o.data = .fields vs)
    (hn : ["enumerate", "zip", "dict_itemiterator", "dict_reverseitemiterator", "odict_iterator", "itertools.zip_longest", "itertools.pairwise"].contains n = false) (hQ : Q () s) : wpAny M A (letOwnedTupleGo tg (.ref it) u) Q E s := by
  unfold letOwnedTupleGo
  cases tg <;> first
    | exact wpAny_pure hQ
    | (cases u <;> first
        | exact wpAny_pure hQ
        | (refine wpAny_bind (wpAny_load ho ?_)
           rw [hc, hd]
           show wpAny M A (if (["enumerate", "zip", "dict_itemiterator", "dict_reverseitemiterator", "odict_iterator", "itertools.zip_longest", "itertools.pairwise"].contains n && vs[0]? == some (rawInt _)) = true then _ else _) Q E s
           rw [if_neg (by intro h; rw [hn, Bool.false_and] at h; cases h)]
           exact wpAny_pure hQ))

/-- the list at a, as it stands at each turn (a loop may append to it) -/
def Itl (K : PySem.W.Frag) (a : Addr) : It :=
  ⟨fun i H => ∃ xs x, SqL K H a xs ∧ xs[i]? = some x, fun i H x H' => H' = H ∧ ∀ xs, SqL K H a xs → xs[i]? = some x, fun i H => ∃ xs, SqL K H a xs ∧ xs.length ≤ i⟩
def Itt (K : PySem.W.Frag) (a : Addr) : It :=
  ⟨fun i H => ∃ xs x, SqT K H a xs ∧ xs[i]? = some x, fun i H x H' => H' = H ∧ ∀ xs, SqT K H a xs → xs[i]? = some x, fun i H => ∃ xs, SqT K H a xs ∧ xs.length ≤ i⟩
/-- lo, lo + 1, .. (n of them) -/
def Itr (lo : Int) (n : Nat) : It := ⟨fun i _ => i < n, fun i H x H' => H' = H ∧ x = .int (lo + i), fun i _ => n ≤ i⟩
theorem turn_list {P : Program} {w : World} {K : PySem.W.Frag} {tg : Expr} (a it : Addr) : Turn P w K tg (Itl K a) [it] it (fun i h => h.IsListIter it a i) where
  mem := by simp
  obj := fun i h st b hb => by
    have e : b = it := by simpa using hb
    subst e
    obtain ⟨o, e, c, d⟩ := st
    exact ⟨o, e, fun v z => by rw [d] at z; cases z⟩
  keep := fun i h h' st k => st.at fun o e => k it (by simp) o e
  item := by
    intro X hP hw hK hc i pins s σ H E I hf st hg
    subst hP hw hK
    obtain ⟨xs, x, hq, hx⟩ := hg
    obtain ⟨its, rv, p, hz⟩ := I.list hq
    obtain ⟨u, hu, ru⟩ := rv.get hx
    obtain ⟨f0, f1, f2, f3, f4, f5⟩ := hf it (by simp)
    refine wpAny_pyNext_list_item st p.isList (x := u) (by simpa using hu) fun h' st' sb => ?_
    have I1 : Inv X pins σ H { s with heap := h' } := I.turned (t' := s.toks) (fun b o hb e => (sb.2 b hb).trans e) f0 f1 f3 f4 f5
    obtain ⟨o, e, c, d⟩ := id st'
    exact ⟨u, rfl, go_of (s := { s with heap := h' }) e c d (by decide) ⟨x, H, I1, ru, ⟨rfl, fun ys hy => by rw [I.list_inj hy hq]; exact hx⟩, st', fun b hb => (hf b hb).1⟩⟩
  done := by
    intro X hP hw hK hc i pins s σ H E I hf st hg
    subst hP hw hK
    obtain ⟨xs, hq, hx⟩ := hg
    obtain ⟨its, rv, p, hz⟩ := I.list hq
    obtain ⟨f0, f1, f2, f3, f4, f5⟩ := hf it (by simp)
    have hl := rv.length
    exact wpAny_pyNext_list_end (I.ok.hd hc) st p.isList (by simp; omega) fun h' eb => ⟨rfl, I.turned (t' := s.toks) (fun b o hb e => eb b o hb e) f0 f1 f3 f4 f5⟩
  self := fun _ _ _ _ _ st h => wpAny_pyIter_listiter st h
theorem turn_tuple {P : Program} {w : World} {K : PySem.W.Frag} {tg : Expr} (a it : Addr) : Turn P w K tg (Itt K a) [it] it (fun i h => h.IsTupleIter it a i) where
  mem := by simp
  obj := fun i h st b hb => by
    have e : b = it := by simpa using hb
    subst e
    obtain ⟨o, e, c, d⟩ := st
    exact ⟨o, e, fun v z => by rw [d] at z; cases z⟩
  keep := fun i h h' st k => st.at fun o e => k it (by simp) o e
  item := by
    intro X hP hw hK hc i pins s σ H E I hf st hg
    subst hP hw hK
    obtain ⟨xs, x, hq, hx⟩ := hg
    obtain ⟨its, rv, p, hz⟩ := I.tuple hq
    obtain ⟨u, hu, ru⟩ := rv.get hx
    obtain ⟨f0, f1, f2, f3, f4, f5⟩ := hf it (by simp)
    refine wpAny_pyNext_tuple_item st (show s.heap.IsTuple a its.toArray from p) (x := u) (by simpa using hu) fun h' st' sb => ?_
    have I1 : Inv X pins σ H { s with heap := h' } := I.turned (t' := s.toks) (fun b o hb e => (sb.2 b hb).trans e) f0 f1 f3 f4 f5
    obtain ⟨o, e, c, d⟩ := id st'
    exact ⟨u, rfl, go_of (s := { s with heap := h' }) e c d (by decide) ⟨x, H, I1, ru, ⟨rfl, fun ys hy => by rw [I.tuple_inj hy hq]; exact hx⟩, st', fun b hb => (hf b hb).1⟩⟩
  done := by
    intro X hP hw hK hc i pins s σ H E I hf st hg
    subst hP hw hK
    obtain ⟨xs, hq, hx⟩ := hg
    obtain ⟨its, rv, p, hz⟩ := I.tuple hq
    obtain ⟨f0, f1, f2, f3, f4, f5⟩ := hf it (by simp)
    have hl := rv.length
    exact wpAny_pyNext_tuple_end (I.ok.hd hc) st (show s.heap.IsTuple a its.toArray from p) (by simp; omega) fun h' eb => ⟨rfl, I.turned (t' := s.toks) (fun b o hb e => eb b o hb e) f0 f1 f3 f4 f5⟩
  self := fun _ _ _ _ _ st h => wpAny_pyIter_tupleiter st h
theorem turn_range {P : Program} {w : World} {K : PySem.W.Frag} {tg : Expr} (it : Addr) (lo : Int) (n : Nat) : Turn P w K tg (Itr lo n) [it] it (fun i h => IsRangeIter h it (lo + (i : Nat) * 1) ((n : Int) - (i : Nat)) 1) where
  mem := by simp
  obj := fun i h st b hb => by
    have e : b = it := by simpa using hb
    subst e
    exact ⟨_, st, fun v z => by
      have z' : Data.fields _ = Data.cell v := z
      cases z'⟩
  keep := fun i h h' st k => k it (by simp) _ st
  item := by
    intro X hP hw hK hc i pins s σ H E I hf st hg
    subst hP hw hK
    obtain ⟨f0, f1, f2, f3, f4, f5⟩ := hf it (by simp)
    have W := Walks.range (prog := X.prog) (w := X.w) (I.ok.hd hc) it lo 1 n
    refine W.item i s _ _ hg st fun v h' tk hv st' kk => ?_
    obtain ⟨t, rfl⟩ := hv
    have I1 : Inv X pins σ H { s with heap := h', toks := tk } := I.turned (fun b o hb e => kk b o (by simpa using hb) e) f0 f1 f3 f4 f5
    refine ⟨_, rfl, go_of (s := { s with heap := h', toks := tk }) (n := "range_iterator") st' rfl rfl (by decide) ⟨.int (lo + i), H, I1, ⟨t, ?_⟩, ⟨rfl, rfl⟩, st', fun b hb => (hf b hb).1⟩⟩
    rw [Int.mul_one]
  done := by
    intro X hP hw hK hc i pins s σ H E I hf st hg
    subst hP hw hK
    obtain ⟨f0, f1, f2, f3, f4, f5⟩ := hf it (by simp)
    exact wpAny_pyNext_range_end (I.ok.hd hc) st (by have : n ≤ i := hg; omega) fun h' eb => ⟨rfl, I.turned (t' := s.toks) (fun b o hb e => eb b o hb e) f0 f1 f3 f4 f5⟩
  self := fun _ _ _ _ _ st h => wpAny_pyIter_rangeiter st h
end L2

namespace L2
open PySem PySem.Spec PyProof.Rows
section
variable {X : Cx} {tg : Expr}
def iList (K : PySem.W.Frag) (tl : TE) : TI := fun σ H R => tl σ H fun x H1 => ∃ a, x = .ref a ∧ (∃ xs, SqL K H1 a xs) ∧ R (Itl K a) H1
def iTup (K : PySem.W.Frag) (tl : TE) : TI := fun σ H R => tl σ H fun x H1 => ∃ a, x = .ref a ∧ (∃ xs, SqT K H1 a xs) ∧ R (Itt K a) H1
theorem pi_list {l : Expr} {tl : TE} (hl : PE X l tl) : PI X tg l (iList X.K tl) := by
  intro pins s σ H R I h
  refine thn (hl pins s σ H _ I h) fun v s1 ⟨x, H1, I1, r1, q1⟩ => ?_
  obtain ⟨a, e, ⟨xs, hq⟩, q⟩ := q1
  subst e
  cases r1
  obtain ⟨its, rv, p, hz⟩ := I1.list hq
  refine wpAny_pyIter_list p.isList ?_
  refine ⟨s1.heap.objs.size, [s1.heap.objs.size], _, _, H1, rfl, I1.kept (t' := s1.toks) fun b o e => Heap.get?_push_of_some _ e, turn_list a _, ⟨_, Heap.get?_push_size _ rfl, rfl, rfl⟩, fun b hb => ?_, q⟩
  have e : b = s1.heap.objs.size := by simpa using hb
  subst e
  exact I1.fpOk (Nat.le_refl _) (I1.hok.fresh (Nat.le_refl _))
theorem pi_tup {l : Expr} {tl : TE} (hl : PE X l tl) : PI X tg l (iTup X.K tl) := by
  intro pins s σ H R I h
  refine thn (hl pins s σ H _ I h) fun v s1 ⟨x, H1, I1, r1, q1⟩ => ?_
  obtain ⟨a, e, ⟨xs, hq⟩, q⟩ := q1
  subst e
  cases r1
  obtain ⟨its, rv, p, hz⟩ := I1.tuple hq
  refine wpAny_pyIter_tuple (show s1.heap.IsTuple a its.toArray from p) ?_
  refine ⟨s1.heap.objs.size, [s1.heap.objs.size], _, _, H1, rfl, I1.kept (t' := s1.toks) fun b o e => Heap.get?_push_of_some _ e, turn_tuple a _, ⟨_, Heap.get?_push_size _ rfl, rfl, rfl⟩, fun b hb => ?_, q⟩
  have e : b = s1.heap.objs.size := by simpa using hb
  subst e
  exact I1.fpOk (Nat.le_refl _) (I1.hok.fresh (Nat.le_refl _))
/-- a range object just made, walked -/
theorem range_it {pins : List (Addr × Obj)} {σ : St} {H : Hp} {s : Shared} {R : It → Hp → Prop} {E : Value → Shared → Prop} {lo hi : Int} {t u v : Tok} {tk : Nat} (I : Inv X pins σ H s) (h1 : -(2 ^ 62) ≤ lo) (h2 : lo < 2 ^ 62) (h3 : -(2 ^ 62) ≤ hi) (h4 : hi < 2 ^ 62)
    (q : R (Itr lo (hi - lo).toNat) H) : wpAny (model X.prog X.w) X.A (pyIter (.ref s.heap.objs.size)) (PIE X pins σ tg R) E { s with heap := s.heap.push { cls := .type "range", data := .fields #[.int lo t, .int hi u, .int 1 v] }, toks := tk } := by
  refine wpAny_pyIter_range (IsRange.new ..) (small_one h1 h2 h3 h4) ?_
  have I1 : Inv X pins σ H { s with heap := s.heap.push { cls := .type "range", data := .fields #[.int lo t, .int hi u, .int 1 v] }, toks := tk } := I.kept fun b o e => Heap.get?_push_of_some _ e
  refine ⟨(s.heap.push { cls := .type "range", data := .fields #[.int lo t, .int hi u, .int 1 v] }).objs.size, [(s.heap.push { cls := .type "range", data := .fields #[.int lo t, .int hi u, .int 1 v] }).objs.size], _, _, H, rfl,
    I1.kept (t' := tk) fun b o e => Heap.get?_push_of_some _ e, turn_range _ lo (hi - lo).toNat, ?_, fun b hb => ?_, q⟩
  · have e1 : lo + ((0 : Nat) : Int) * 1 = lo := by simp
    have e2 : (((hi - lo).toNat : Nat) : Int) - ((0 : Nat) : Int) = Builtin.Range.rangeSize lo hi 1 := by rw [rangeSize_one]; split <;> omega
    show IsRangeIter _ _ (lo + ((0 : Nat) : Int) * 1) ((((hi - lo).toNat : Nat) : Int) - ((0 : Nat) : Int)) 1
    rw [e1, e2]
    exact Heap.get?_push_size _ rfl
  · have e : b = (s.heap.push { cls := .type "range", data := .fields #[.int lo t, .int hi u, .int 1 v] }).objs.size := by simpa using hb
    subst e
    exact I1.fpOk (Nat.le_refl _) (I1.hok.fresh (Nat.le_refl _))
def iRng1 (ta : TA) : TI := fun σ H R => ta σ H fun vs H1 => ∃ j : Int, vs = [.int j] ∧ -(2 ^ 62) ≤ j ∧ j < 2 ^ 62 ∧ R (Itr 0 j.toNat) H1
def iRng2 (ta : TA) : TI := fun σ H R => ta σ H fun vs H1 => ∃ i j : Int, vs = [.int i, .int j] ∧ (-(2 ^ 62) ≤ i ∧ i < 2 ^ 62 ∧ -(2 ^ 62) ≤ j ∧ j < 2 ^ 62) ∧ R (Itr i (j - i).toNat) H1
theorem pi_range1 {a : Expr} {ta : TA} {p pos : Pos} (hg : Gl X "range") (hm : X.mg "range" = none) (ha : PA X [a] ta) (hs : starEach [a] X.env = [(false, eval a X.env)] := by rfl) : PI X tg (.Call (.Name "range" p) [a] [] pos) (iRng1 ta) := by
  intro pins s σ H R I h
  refine Call_ (ld_blt I hg hm boot_range (PyProof.Rows.callWith_type1 (thn (ha pos pins s σ H _ I h) fun us s1 ⟨vs, H1, I1, r1, q1⟩ => ?_) hs rfl))
  obtain ⟨j, e, q1, q2, q⟩ := q1
  subst e
  cases r1 with
  | cons r rr =>
    cases rr
    obtain ⟨t, rfl⟩ := r
    exact call_range_1 (range_it I1 (by omega) (by omega) q1 q2 (by simpa using q))
theorem pi_range2 {a b : Expr} {ta : TA} {p pos : Pos} (hg : Gl X "range") (hm : X.mg "range" = none) (ha : PA X [a, b] ta) (hs : starEach [a, b] X.env = [(false, eval a X.env), (false, eval b X.env)] := by rfl) (hs2 : starEach [b] X.env = [(false, eval b X.env)] := by rfl) :
    PI X tg (.Call (.Name "range" p) [a, b] [] pos) (iRng2 ta) := by
  intro pins s σ H R I h
  refine Call_ (ld_blt I hg hm boot_range (PyProof.Rows.callWith_type1 (thn (ha pos pins s σ H _ I h) fun us s1 ⟨vs, H1, I1, r1, q1⟩ => ?_) (by rw [hs, hs2]) (by rw [hs2]; rfl)))
  obtain ⟨i, j, e, ⟨q1, q2, q3, q4⟩, q⟩ := q1
  subst e
  cases r1 with
  | cons r rr =>
    cases rr with
    | cons r' rr =>
      cases rr
      obtain ⟨t, rfl⟩ := r
      obtain ⟨t', rfl⟩ := r'
      exact call_range_2 (range_it I1 q1 q2 q3 q4 q)

/-! ### for -/
/-- W: the invariant by the turn and a measure; N: what the body is to reach -/
def tFor (wi : TI) (g : TG) (tb : TS) : TS := fun D σ H => wi σ H fun J H1 => ∃ W : Nat → Nat → St → Hp → Prop, (∃ m, W 0 m σ H1) ∧ ∀ i m σ H, W i m σ H →
  (J.stop i H ∧ D.nx σ H) ∨ (J.go i H ∧ ∃ N : St → Hp → Prop, (∀ σ' H', N σ' H' → ∃ m', m' < m ∧ W (i + 1) m' σ' H') ∧ ∀ x H', J.yld i H x H' → g x σ H' fun σ2 H2 => tb { D with nx := N, ct := N, bk := D.nx } σ2 H2)
/-- the records at fp as they stand -/
def pinsAt (fp : List Addr) (h : Heap) : List (Addr × Obj) := fp.filterMap fun b => (h.get? b).map fun o => (b, o)
theorem mem_pinsAt {fp : List Addr} {h : Heap} {b : Addr} {o : Obj} (hb : b ∈ fp) (e : h.get? b = some o) : (b, o) ∈ pinsAt fp h := List.mem_filterMap.mpr ⟨b, hb, by rw [e]; rfl⟩
theorem of_pinsAt {fp : List Addr} {h : Heap} {p : Addr × Obj} (hp : p ∈ pinsAt fp h) : p.1 ∈ fp ∧ h.get? p.1 = some p.2 := by
  obtain ⟨b, hb, e⟩ := List.mem_filterMap.mp hp
  cases q : h.get? b with
  | none => rw [q] at e; cases e
  | some o =>
    rw [q] at e
    have e' : (b, o) = p := Option.some.inj e
    subst e'
    exact ⟨hb, q⟩
theorem Inv.pinned {pins : List (Addr × Obj)} {σ : St} {H : Hp} {s : Shared} {fp : List Addr} (I : Inv X pins σ H s) (hf : ∀ b ∈ fp, FpOk X pins H b) (ho : ∀ b ∈ fp, ∃ o, s.heap.get? b = some o ∧ ∀ v, o.data ≠ .cell v) : Inv X (pins ++ pinsAt fp s.heap) σ H s :=
  I.pins_of fun p hp => (List.mem_append.mp hp).elim (fun z => I.pin p (List.mem_append_right _ z)) fun z => by
    obtain ⟨hb, e⟩ := of_pinsAt z
    obtain ⟨f0, f1, f2, _⟩ := hf p.1 hb
    obtain ⟨o, e', d⟩ := ho p.1 hb
    rw [e] at e'; cases e'
    exact ⟨e, f0, f1, f2, d⟩
theorem Inv.unpinned {pins pl : List (Addr × Obj)} {σ : St} {H : Hp} {s : Shared} (I : Inv X (pins ++ pl) σ H s) : Inv X pins σ H s := I.pins_of fun p hp => I.pin p (List.mem_append_right _ (List.mem_append_left _ hp))
theorem ps_for {iter : Expr} {body : List Stmt} {wi : TI} {g : TG} {tb : TS} {pos : Pos} (hp : PassesOwn (model X.prog X.w) X.A X.env X.xe) (hc : X.calm = true) (hi : PI X tg iter wi) (hg : PG X tg g) (hb : PSs X body tb)
    (hs : ∀ x, foldedSetIterable iter X.env x = pure x := by intro _; rfl) : PS X (.For tg iter body [] pos) (tFor wi g tb) := by
  intro pins s σ H D I h
  refine wpAny_For (thn (hi pins s σ H _ I h) fun v s1 h1 => thn h1 fun itv s2 h2 => ?_) hs
  obtain ⟨it, fp, tn, J, H2, e, I2, T, st2, f2, W, ⟨m0, w0⟩, turn⟩ := h2
  subst e
  -- what stays true of the iterator's objects through the loop
  have stat : ∀ {H' : Hp}, (∀ b ∈ fp, H' b = none) → ∀ b ∈ fp, FpOk X pins H' b := fun hn b hb => ⟨hn b hb, (f2 b hb).2⟩
  refine codeAny_forLoop_any (fun n s' => ∃ i σ' H', Inv X pins σ' H' s' ∧ tn i s'.heap ∧ (∀ b ∈ fp, H' b = none) ∧ W i n σ' H') ?_ m0 ⟨0, σ, H2, I2, st2, fun b hb => (f2 b hb).1, w0⟩
  rintro n s3 ⟨i, σ3, H3, I3, st3, fr3, w3⟩
  rcases turn i n σ3 H3 w3 with ⟨stop, qn⟩ | ⟨go, N, hN, step⟩
  · refine wpAny_passesOwn hp (thn (T.done X rfl rfl rfl hc i pins s3 σ3 H3 X.xe I3 (stat fr3) st3 stop) fun r s4 ⟨hr, I4⟩ => ?_)
    subst hr
    exact wpAny_execs_nil ⟨σ3, H3, I4, qn⟩
  · refine wpAny_passesOwn hp (thn (T.item X rfl rfl rfl hc i pins s3 σ3 H3 X.xe I3 (stat fr3) st3 go) fun r s4 ⟨u, hr, h4⟩ => ?_)
    subst hr
    refine wpAny_passesOwn hp (thn h4 fun _ s5 ⟨x, H5, I5, r5, y5, st5, fr5⟩ => ?_)
    have I5' := I5.pinned (stat fr5) (T.obj _ _ st5)
    refine wpAny_passesOwn hp (thn (hg _ s5 σ3 H5 x u _ I5' r5 (step x H5 y5)) fun _ s6 ⟨σ6, H6, I6, q6⟩ => ?_)
    refine wpAny_passesOwn hp (thn (hb _ s6 σ6 H6 _ I6 q6) fun f s7 q7 => ?_)
    have again : ∀ {σ7 : St} {H7 : Hp}, Inv X (pins ++ pinsAt fp s5.heap) σ7 H7 s7 → N σ7 H7 → ∃ m, m < n ∧ ∃ i σ' H', Inv X pins σ' H' s7 ∧ tn i s7.heap ∧ (∀ b ∈ fp, H' b = none) ∧ W i m σ' H' := fun {σ7 H7} I7 n7 => by
      obtain ⟨m', hm, w7⟩ := hN σ7 H7 n7
      refine ⟨m', hm, i + 1, σ7, H7, I7.unpinned, T.keep _ _ _ st5 fun b hb o e => (I7.pin (b, o) (List.mem_append_right _ (List.mem_append_right _ (mem_pinsAt hb e)))).1, fun b hb => ?_, w7⟩
      obtain ⟨o, e, d⟩ := T.obj _ _ st5 b hb
      exact (I7.pin (b, o) (List.mem_append_right _ (List.mem_append_right _ (mem_pinsAt hb e)))).2.1
    cases f with
    | next => obtain ⟨σ7, H7, I7, n7⟩ := q7; exact again I7 n7
    | cont => obtain ⟨σ7, H7, I7, n7⟩ := q7; exact again I7 n7
    | brk => obtain ⟨σ7, H7, I7, q7⟩ := q7; exact ⟨σ7, H7, I7.unpinned, q7⟩
    | ret v => obtain ⟨x7, σ7, H7, I7, r7, q7⟩ := q7; exact ⟨x7, σ7, H7, I7.unpinned, r7, q7⟩
end

/-! ### the forms one uses -/
/-- over a list that the body leaves as it is -/
theorem for_list {K : PySem.W.Frag} {a : Addr} {xs : List V} {g : TG} {tb : TS} {D : Ends} {σ : St} {H : Hp} (Pv : Nat → St → Hp → Prop) (h0 : Pv 0 σ H) (hl : ∀ i σ H, i ≤ xs.length → Pv i σ H → SqL K H a xs)
    (hs : ∀ i x σ H, xs[i]? = some x → Pv i σ H → g x σ H fun σ2 H2 => tb { D with nx := Pv (i + 1), ct := Pv (i + 1), bk := D.nx } σ2 H2) (hd : ∀ σ H, Pv xs.length σ H → D.nx σ H) :
    ∃ W : Nat → Nat → St → Hp → Prop, (∃ m, W 0 m σ H) ∧ ∀ i m σ H, W i m σ H →
      ((Itl K a).stop i H ∧ D.nx σ H) ∨ ((Itl K a).go i H ∧ ∃ N : St → Hp → Prop, (∀ σ' H', N σ' H' → ∃ m', m' < m ∧ W (i + 1) m' σ' H') ∧ ∀ x H', (Itl K a).yld i H x H' → g x σ H' fun σ2 H2 => tb { D with nx := N, ct := N, bk := D.nx } σ2 H2) := by
  refine ⟨fun i m σ H => m = xs.length - i ∧ i ≤ xs.length ∧ Pv i σ H, ⟨xs.length, by simp, Nat.zero_le _, h0⟩, ?_⟩
  rintro i m σ H ⟨rfl, hi, p⟩
  have q := hl i σ H hi p
  by_cases hlt : i < xs.length
  · refine .inr ⟨⟨xs, xs[i], q, by simp [hlt]⟩, Pv (i + 1), fun σ' H' p' => ⟨xs.length - (i + 1), by omega, rfl, hlt, p'⟩, fun x H' y => ?_⟩
    obtain ⟨e, y⟩ := y
    subst e
    exact hs i x σ _ (y xs q) p
  · have e : i = xs.length := by omega
    subst e
    exact .inl ⟨⟨xs, q, Nat.le_refl _⟩, hd σ H p⟩
theorem for_tup {K : PySem.W.Frag} {a : Addr} {xs : List V} {g : TG} {tb : TS} {D : Ends} {σ : St} {H : Hp} (Pv : Nat → St → Hp → Prop) (h0 : Pv 0 σ H) (hl : ∀ i σ H, i ≤ xs.length → Pv i σ H → SqT K H a xs)
    (hs : ∀ i x σ H, xs[i]? = some x → Pv i σ H → g x σ H fun σ2 H2 => tb { D with nx := Pv (i + 1), ct := Pv (i + 1), bk := D.nx } σ2 H2) (hd : ∀ σ H, Pv xs.length σ H → D.nx σ H) :
    ∃ W : Nat → Nat → St → Hp → Prop, (∃ m, W 0 m σ H) ∧ ∀ i m σ H, W i m σ H →
      ((Itt K a).stop i H ∧ D.nx σ H) ∨ ((Itt K a).go i H ∧ ∃ N : St → Hp → Prop, (∀ σ' H', N σ' H' → ∃ m', m' < m ∧ W (i + 1) m' σ' H') ∧ ∀ x H', (Itt K a).yld i H x H' → g x σ H' fun σ2 H2 => tb { D with nx := N, ct := N, bk := D.nx } σ2 H2) := by
  refine ⟨fun i m σ H => m = xs.length - i ∧ i ≤ xs.length ∧ Pv i σ H, ⟨xs.length, by simp, Nat.zero_le _, h0⟩, ?_⟩
  rintro i m σ H ⟨rfl, hi, p⟩
  have q := hl i σ H hi p
  by_cases hlt : i < xs.length
  · refine .inr ⟨⟨xs, xs[i], q, by simp [hlt]⟩, Pv (i + 1), fun σ' H' p' => ⟨xs.length - (i + 1), by omega, rfl, hlt, p'⟩, fun x H' y => ?_⟩
    obtain ⟨e, y⟩ := y
    subst e
    exact hs i x σ _ (y xs q) p
  · have e : i = xs.length := by omega
    subst e
    exact .inl ⟨⟨xs, q, Nat.le_refl _⟩, hd σ H p⟩
theorem for_range {lo : Int} {n : Nat} {g : TG} {tb : TS} {D : Ends} {σ : St} {H : Hp} (Pv : Nat → St → Hp → Prop) (h0 : Pv 0 σ H)
    (hs : ∀ i σ H, i < n → Pv i σ H → g (.int (lo + i)) σ H fun σ2 H2 => tb { D with nx := Pv (i + 1), ct := Pv (i + 1), bk := D.nx } σ2 H2) (hd : ∀ σ H, Pv n σ H → D.nx σ H) :
    ∃ W : Nat → Nat → St → Hp → Prop, (∃ m, W 0 m σ H) ∧ ∀ i m σ H, W i m σ H →
      ((Itr lo n).stop i H ∧ D.nx σ H) ∨ ((Itr lo n).go i H ∧ ∃ N : St → Hp → Prop, (∀ σ' H', N σ' H' → ∃ m', m' < m ∧ W (i + 1) m' σ' H') ∧ ∀ x H', (Itr lo n).yld i H x H' → g x σ H' fun σ2 H2 => tb { D with nx := N, ct := N, bk := D.nx } σ2 H2) := by
  refine ⟨fun i m σ H => m = n - i ∧ i ≤ n ∧ Pv i σ H, ⟨n, by simp, Nat.zero_le _, h0⟩, ?_⟩
  rintro i m σ H ⟨rfl, hi, p⟩
  by_cases hlt : i < n
  · refine .inr ⟨hlt, Pv (i + 1), fun σ' H' p' => ⟨n - (i + 1), by omega, rfl, hlt, p'⟩, fun x H' y => ?_⟩
    obtain ⟨e, y⟩ := y
    subst e y
    exact hs i σ _ hlt p
  · have e : i = n := by omega
    subst e
    exact .inl ⟨Nat.le_refl _, hd σ H p⟩
/-- while, by a word and a measure of the state -/
theorem while_by {c : TT} {tb : TS} {D : Ends} {σ : St} {H : Hp} (Pv : St → Hp → Prop) (μ : St → Hp → Nat) (h0 : Pv σ H)
    (hs : ∀ σ H, Pv σ H → c σ H fun b H1 => if b = true then tb { D with nx := fun σ' H' => Pv σ' H' ∧ μ σ' H' < μ σ H, ct := fun σ' H' => Pv σ' H' ∧ μ σ' H' < μ σ H, bk := D.nx } σ H1 else D.nx σ H1)
    (mono : ∀ σ H Q Q', (∀ b H1, Q b H1 → Q' b H1) → c σ H Q → c σ H Q') : tWhile c tb D σ H := by
  refine ⟨fun m σ H => m = μ σ H ∧ Pv σ H, ⟨_, rfl, h0⟩, ?_⟩
  rintro m σ H ⟨rfl, p⟩
  refine mono σ H _ _ (fun b H1 q => ?_) (hs σ H p)
  cases b with
  | true => exact ⟨_, fun σ' H' ⟨p', l⟩ => ⟨_, l, rfl, p'⟩, q⟩
  | false => exact q
end L2

namespace L2
open PySem PySem.Spec PyProof.Rows

abbrev R2 := V → V → Hp → VK → Prop
/-- a two-place operation on values: f is binaryOp op, inplaceOp op or compareOp op -/
def OpR (X : Cx) (f : Value → Value → Sem Value) (r : R2) : Prop :=
  ∀ (pins : List (Addr × Obj)) (s : Shared) (σ : St) (H : Hp) (x y : V) (v u : Value) (Q : VK), Inv X pins σ H s → RelV x v → RelV y u → r x y H Q →
    wpAny (model X.prog X.w) X.A (f v u) (EP X pins σ Q) X.xe s
/-- a one-place operation -/
def UnR (X : Cx) (f : Value → Sem Value) (r : V → Hp → VK → Prop) : Prop :=
  ∀ (pins : List (Addr × Obj)) (s : Shared) (σ : St) (H : Hp) (x : V) (v : Value) (Q : VK), Inv X pins σ H s → RelV x v → r x H Q →
    wpAny (model X.prog X.w) X.A (f v) (EP X pins σ Q) X.xe s
/-- a call of a value that is known (a builtin, a type) with values -/
def CallR (X : Cx) (f : Value) (r : List V → Hp → VK → Prop) : Prop :=
  ∀ (pins : List (Addr × Obj)) (s : Shared) (σ : St) (H : Hp) (xs : List V) (us : List Value) (Q : VK), Inv X pins σ H s → Vals xs us → r xs H Q →
    wpAny (model X.prog X.w) X.A (call f us) (EP X pins σ Q) X.xe s
/-- a value's truth -/
def TruR (X : Cx) (r : V → Hp → (Bool → Hp → Prop) → Prop) : Prop :=
  ∀ (pins : List (Addr × Obj)) (s : Shared) (σ : St) (H : Hp) (x : V) (v : Value) (Q : Bool → Hp → Prop), Inv X pins σ H s → RelV x v → r x H Q →
    wpAny (model X.prog X.w) X.A (truthy v) (TP X pins σ Q) X.xe s

def tOp (r : R2) (ta tb : TE) : TE := fun σ H Q => ta σ H fun x H1 => tb σ H1 fun y H2 => r x y H2 Q
def tUn (r : V → Hp → VK → Prop) (ta : TE) : TE := fun σ H Q => ta σ H fun x H1 => r x H1 Q
/-- ints in, under C, and a value out -/
def rI (C : Int → Int → Prop) (g : Int → Int → V) : R2 := fun x y H Q => ∃ i j, x = .int i ∧ y = .int j ∧ C i j ∧ Q (g i j) H
def rI0 (g : Int → Int → V) : R2 := fun x y H Q => ∃ i j, x = .int i ∧ y = .int j ∧ Q (g i j) H
def rU (g : Int → V) : V → Hp → VK → Prop := fun x H Q => ∃ i, x = .int i ∧ Q (g i) H

section
variable {X : Cx} {a b c : Expr} {ta tb tc : TE} {pos : Pos}

theorem binT (ha : PE X a ta) (hb : PE X b tb) {pins : List (Addr × Obj)} {s : Shared} {σ : St} {H : Hp} {R : V → V → Hp → Prop} (I : Inv X pins σ H s)
    (h : ta σ H fun x H1 => tb σ H1 fun y H2 => R x y H2) {Q : Value → Shared → Prop} {f : Value → Value → Sem Value}
    (hf : ∀ v u s2 x y H2, Inv X pins σ H2 s2 → RelV x v → RelV y u → R x y H2 → wpAny (model X.prog X.w) X.A (f v u) Q X.xe s2) :
    wpAny (model X.prog X.w) X.A (eval a X.env) (fun v s₁ => wpAny (model X.prog X.w) X.A (eval b X.env) (fun u s₂ => wpAny (model X.prog X.w) X.A (f v u) Q X.xe s₂) X.xe s₁) X.xe s := by
  refine thn (ha pins s σ H _ I h) fun v s1 ⟨x, H1, I1, r1, q1⟩ => ?_
  refine thn (hb pins s1 σ H1 _ I1 q1) fun u s2 ⟨y, H2, I2, r2, q2⟩ => ?_
  exact hf v u s2 x y H2 I2 r1 r2 q2

theorem pe_op {op : Operator} {r : R2} (ho : OpR X (binaryOp op) r) (ha : PE X a ta) (hb : PE X b tb) : PE X (.BinOp a op b pos) (tOp r ta tb) := by
  intro pins s σ H Q I h
  exact wpAny_BinOp (binT ha hb I h fun v u s2 x y H2 I2 rx ry q => ho pins s2 σ H2 x y v u Q I2 rx ry q)
theorem pe_un {op : UnaryOp} {r : V → Hp → VK → Prop} (ho : UnR X (unaryOp op) r) (ha : PE X a ta) : PE X (.UnaryOp op a pos) (tUn r ta) := by
  intro pins s σ H Q I h
  exact UnaryOp_ (thn (ha pins s σ H _ I h) fun v s1 ⟨x, H1, I1, r1, q1⟩ => ho pins s1 σ H1 x v Q I1 r1 q1)
/-- a op= e at a name: the name's slot i -/
theorem augR {op : Operator} {r : R2} (ho : OpR X (inplaceOp op) r) {pins : List (Addr × Obj)} {s : Shared} {σ : St} {H : Hp} {x y : V} {v u : Value} {Q : VK} (I : Inv X pins σ H s)
    (rx : RelV x v) (ry : RelV y u) (q : r x y H Q) : wpAny (model X.prog X.w) X.A (inplaceOp op v u) (EP X pins σ Q) X.xe s := ho pins s σ H x y v u Q I rx ry q

/-! ### ints -/
theorem opI {f : Value → Value → Sem Value} {C : Int → Int → Prop} {g : Int → Int → Int}
    (rule : ∀ (i j : Int) (t u : Tok) (s : Shared) (Q : Value → Shared → Prop) (E : Value → Shared → Prop), C i j → Q (.int (g i j) s.toks) { s with toks := s.toks + 1 } → wpAny (model X.prog X.w) X.A (f (.int i t) (.int j u)) Q E s) :
    OpR X f (rI C fun i j => .int (g i j)) := by
  intro pins s σ H x y v u Q I rx ry h
  obtain ⟨i, j, rfl, rfl, hc, q⟩ := h
  obtain ⟨t, rfl⟩ := rx
  obtain ⟨t', rfl⟩ := ry
  exact rule i j t t' s _ _ hc ⟨.int (g i j), H, I.tok _, ⟨_, rfl⟩, q⟩
theorem opI0 {f : Value → Value → Sem Value} {g : Int → Int → Int}
    (rule : ∀ (i j : Int) (t u : Tok) (s : Shared) (Q : Value → Shared → Prop) (E : Value → Shared → Prop), Q (.int (g i j) s.toks) { s with toks := s.toks + 1 } → wpAny (model X.prog X.w) X.A (f (.int i t) (.int j u)) Q E s) :
    OpR X f (rI0 fun i j => .int (g i j)) := by
  intro pins s σ H x y v u Q I rx ry h
  obtain ⟨i, j, rfl, rfl, q⟩ := h
  obtain ⟨t, rfl⟩ := rx
  obtain ⟨t', rfl⟩ := ry
  exact rule i j t t' s _ _ ⟨.int (g i j), H, I.tok _, ⟨_, rfl⟩, q⟩
theorem opB0 {f : Value → Value → Sem Value} {g : Int → Int → Bool}
    (rule : ∀ (i j : Int) (t u : Tok) (s : Shared) (Q : Value → Shared → Prop) (E : Value → Shared → Prop), Q (.bool (g i j)) s → wpAny (model X.prog X.w) X.A (f (.int i t) (.int j u)) Q E s) :
    OpR X f (rI0 fun i j => .bl (g i j)) := by
  intro pins s σ H x y v u Q I rx ry h
  obtain ⟨i, j, rfl, rfl, q⟩ := h
  obtain ⟨t, rfl⟩ := rx
  obtain ⟨t', rfl⟩ := ry
  exact rule i j t t' s _ _ ⟨.bl (g i j), H, I, rfl, q⟩

def CDiv (i j : Int) : Prop := 0 < j ∧ j < 1073741824
def CDivN (i j : Int) : Prop := j ≠ 0 ∧ j.natAbs < 1073741824
def CPow (i j : Int) : Prop := 0 ≤ j ∧ j ≤ 1000000 ∧ i.natAbs < 2 ^ 64
def CMul (i j : Int) : Prop := (-(2 ^ 64) < i ∧ i < 2 ^ 64) ∨ (-(2 ^ 64) < j ∧ j < 2 ^ 64)
theorem CMul.ok {i j : Int} (h : CMul i j) : IntMulOk i j := by
  rcases h with ⟨h1, h2⟩ | ⟨h1, h2⟩
  · exact .of_left (intBits_le_64 h1 h2)
  · exact .of_right (intBits_le_64 h1 h2)
theorem two_pow_nn (k : Nat) : (0 : Int) ≤ 2 ^ k := by
  rw [two_pow_cast]
  exact Int.natCast_nonneg _

theorem op_add : OpR X (binaryOp .Add) (rI0 fun i j => .int (i + j)) := opI0 fun _ _ _ _ _ _ _ q => add_int q
theorem op_sub : OpR X (binaryOp .Sub) (rI0 fun i j => .int (i - j)) := opI0 fun _ _ _ _ _ _ _ q => sub_int q
theorem op_mul : OpR X (binaryOp .Mult) (rI CMul fun i j => .int (i * j)) := opI fun _ _ _ _ _ _ _ hc q => mul_int q hc.ok
/-- // by a positive divisor -/
theorem op_fdiv : OpR X (binaryOp .FloorDiv) (rI CDiv fun i j => .int (i / j)) := opI fun i j _ _ _ _ _ hc q => by
  have h1 : (0 : Int) < j := hc.1
  have h2 : j < 1073741824 := hc.2
  exact floordiv_int (by omega) (by rw [Int.fdiv_eq_ediv_of_nonneg i (by omega)]; exact q) (.inl (PyProof.noPylong_small (by omega)))
theorem op_fdivN : OpR X (binaryOp .FloorDiv) (rI CDivN fun i j => .int (i.fdiv j)) := opI fun _ _ _ _ _ _ _ hc q => floordiv_int hc.1 q (.inl (PyProof.noPylong_small hc.2))
/-- % by a positive divisor of any size -/
theorem op_mod : OpR X (binaryOp .Mod) (rI (fun _ j => 0 < j) fun i j => .int (i % j)) := opI fun i j _ _ _ _ _ hc q => by
  have h1 : (0 : Int) < j := hc
  exact mod_int' (by omega) (by rw [Int.fmod_eq_emod_of_nonneg i (by omega)]; exact q)
theorem op_modN : OpR X (binaryOp .Mod) (rI (fun _ j => j ≠ 0) fun i j => .int (i.fmod j)) := opI fun _ _ _ _ _ _ _ hc q => mod_int' hc q
theorem op_pow : OpR X (binaryOp .Pow) (rI CPow fun i j => .int (i ^ j.toNat)) := opI fun _ _ _ _ _ _ _ hc q => pow_int_small hc.1 hc.2.1 hc.2.2 q
theorem op_shl : OpR X (binaryOp .LShift) (rI CPow fun i j => .int (i * 2 ^ j.toNat)) := opI fun _ _ _ _ _ _ _ hc q => lshift_int_small hc.1 hc.2.1 hc.2.2 q
theorem op_shr : OpR X (binaryOp .RShift) (rI (fun _ j => 0 ≤ j) fun i j => .int (i / 2 ^ j.toNat)) := opI fun i j _ _ _ _ _ hc q =>
  rshift_int hc (by rw [Int.fdiv_eq_ediv_of_nonneg i (two_pow_nn _)]; exact q)
theorem op_and : OpR X (binaryOp .BitAnd) (rI0 fun i j => .int (Builtin.bitAnd i j)) := opI0 fun _ _ _ _ _ _ _ q => and_int q
theorem op_or : OpR X (binaryOp .BitOr) (rI0 fun i j => .int (Builtin.bitOr i j)) := opI0 fun _ _ _ _ _ _ _ q => or_int q
theorem op_xor : OpR X (binaryOp .BitXor) (rI0 fun i j => .int (Builtin.bitXor i j)) := opI0 fun _ _ _ _ _ _ _ q => xor_int q

theorem iop_add : OpR X (inplaceOp .Add) (rI0 fun i j => .int (i + j)) := opI0 fun _ _ _ _ _ _ _ q => iadd_int q
theorem iop_sub : OpR X (inplaceOp .Sub) (rI0 fun i j => .int (i - j)) := opI0 fun _ _ _ _ _ _ _ q => isub_int q
theorem iop_mul : OpR X (inplaceOp .Mult) (rI CMul fun i j => .int (i * j)) := opI fun _ _ _ _ _ _ _ hc q => imul_int q hc.ok
theorem iop_fdiv : OpR X (inplaceOp .FloorDiv) (rI CDiv fun i j => .int (i / j)) := opI fun i j _ _ _ _ _ hc q => by
  have h1 : (0 : Int) < j := hc.1
  have h2 : j < 1073741824 := hc.2
  exact ifloordiv_int (by omega) (by rw [Int.fdiv_eq_ediv_of_nonneg i (by omega)]; exact q) (.inl (PyProof.noPylong_small (by omega)))
theorem iop_mod : OpR X (inplaceOp .Mod) (rI (fun _ j => 0 < j) fun i j => .int (i % j)) := opI fun i j _ _ _ _ _ hc q => by
  have h1 : (0 : Int) < j := hc
  exact imod_int (by omega) (by rw [Int.fmod_eq_emod_of_nonneg i (by omega)]; exact q)
theorem iop_shl : OpR X (inplaceOp .LShift) (rI CPow fun i j => .int (i * 2 ^ j.toNat)) := opI fun _ _ _ _ _ _ _ hc q => ilshift_int_small hc.1 hc.2.1 hc.2.2 q
theorem iop_shr : OpR X (inplaceOp .RShift) (rI (fun _ j => 0 ≤ j) fun i j => .int (i / 2 ^ j.toNat)) := opI fun i j _ _ _ _ _ hc q =>
  irshift_int hc (by rw [Int.fdiv_eq_ediv_of_nonneg i (two_pow_nn _)]; exact q)
theorem iop_and : OpR X (inplaceOp .BitAnd) (rI0 fun i j => .int (Builtin.bitAnd i j)) := opI0 fun _ _ _ _ _ _ _ q => iand_int q
theorem iop_or : OpR X (inplaceOp .BitOr) (rI0 fun i j => .int (Builtin.bitOr i j)) := opI0 fun _ _ _ _ _ _ _ q => ior_int q
theorem iop_xor : OpR X (inplaceOp .BitXor) (rI0 fun i j => .int (Builtin.bitXor i j)) := opI0 fun _ _ _ _ _ _ _ q => ixor_int q

theorem unI {f : Value → Sem Value} {g : Int → Int}
    (rule : ∀ (i : Int) (t : Tok) (s : Shared) (Q : Value → Shared → Prop) (E : Value → Shared → Prop), Q (.int (g i) s.toks) { s with toks := s.toks + 1 } → wpAny (model X.prog X.w) X.A (f (.int i t)) Q E s) :
    UnR X f (rU fun i => .int (g i)) := by
  intro pins s σ H x v Q I rx h
  obtain ⟨i, rfl, q⟩ := h
  obtain ⟨t, rfl⟩ := rx
  exact rule i t s _ _ ⟨.int (g i), H, I.tok _, ⟨_, rfl⟩, q⟩
theorem un_neg : UnR X (unaryOp .USub) (rU fun i => .int (-i)) := unI fun _ _ _ _ _ q => neg_int q
theorem un_inv : UnR X (unaryOp .Invert) (rU fun i => .int (Builtin.bitNot i)) := unI fun _ _ _ _ _ q => invert_int q

/-! ### bools among ints: n += (a < b) -/
theorem op_add_ib : OpR X (binaryOp .Add) (fun x y H Q => ∃ i k, x = .int i ∧ y = .bl k ∧ Q (.int (i + b2i k)) H) := by
  intro pins s σ H x y v u Q I rx ry h
  obtain ⟨i, k, rfl, rfl, q⟩ := h
  obtain ⟨t, rfl⟩ := rx
  cases ry
  exact add_int_bool ⟨.int (i + b2i k), H, I.tok _, ⟨_, rfl⟩, q⟩
end

/-! ### comparisons -/
/-- the scalars that == tells apart as data does -/
def scal : V → V → Bool
  | .non, .non => true | .non, .int _ => true | .int _, .non => true | .non, .bl _ => true | .bl _, .non => true | .non, .str _ => true | .str _, .non => true
  | .int _, .int _ => true | .bl _, .bl _ => true | .str _, .str _ => true | .byt _, .byt _ => true
  | .int _, .str _ => true | .str _, .int _ => true | .bl _, .str _ => true | .str _, .bl _ => true
  | _, _ => false
def rEq : R2 := fun x y H Q => scal x y = true ∧ Q (.bl (decide (x = y))) H
def rNe : R2 := fun x y H Q => scal x y = true ∧ Q (.bl (!decide (x = y))) H

theorem dec_int {i j : Int} : decide (V.int i = V.int j) = (i == j) := by
  rw [Bool.eq_iff_iff]
  simp
theorem dec_bl {i j : Bool} : decide (V.bl i = V.bl j) = (i == j) := by
  rw [Bool.eq_iff_iff]
  simp
theorem dec_str {i j : Str} : decide (V.str i = V.str j) = (i == j) := by
  rw [Bool.eq_iff_iff]
  simp
theorem dec_byt {i j : Array UInt8} : decide (V.byt i = V.byt j) = (i.toList == j.toList) := by
  rw [Bool.eq_iff_iff]
  cases i
  cases j
  simp

section
variable {X : Cx} {a b c : Expr} {ta tb tc : TE} {pos : Pos}
theorem fin_bl {pins : List (Addr × Obj)} {σ : St} {H : Hp} {s : Shared} {Q : VK} {k k' : Bool} (I : Inv X pins σ H s) (q : Q (.bl k) H) (e : k = k') : EP X pins σ Q (.bool k') s := by
  subst e
  exact ⟨.bl k, H, I, rfl, q⟩
theorem op_eq : OpR X (compareOp .Eq) rEq := by
  intro pins s σ H x y v u Q I rx ry h
  obtain ⟨hs, q⟩ := h
  cases x with
  | non =>
    cases rx
    cases y with
    | non => cases ry; exact PySem.EqNone.eq_none_none (fin_bl I q (by simp))
    | bl j => cases ry; exact PySem.EqNone.eq_none_bool (fin_bl I q (by simp))
    | int j => obtain ⟨t', rfl⟩ := ry; exact PySem.EqNone.eq_none_int (fin_bl I q (by simp))
    | str j => obtain ⟨t', rfl⟩ := ry; exact PySem.EqNone.eq_none_str (fin_bl I q (by simp))
    | _ => exact absurd (show false = true from hs) Bool.false_ne_true
  | bl i =>
    cases rx
    cases y with
    | non => cases ry; exact PySem.EqNone.eq_bool_none (fin_bl I q (by simp))
    | bl j => cases ry; exact eq_bool (fin_bl I q dec_bl)
    | str j => obtain ⟨t', rfl⟩ := ry; exact PySem.EqMixed.eq_bool_str (fin_bl I q (by simp))
    | _ => exact absurd (show false = true from hs) Bool.false_ne_true
  | int i =>
    obtain ⟨t, rfl⟩ := rx
    cases y with
    | non => cases ry; exact PySem.EqNone.eq_int_none (fin_bl I q (by simp))
    | int j => obtain ⟨t', rfl⟩ := ry; exact eq_int (fin_bl I q dec_int)
    | str j => obtain ⟨t', rfl⟩ := ry; exact PySem.EqMixed.eq_int_str (fin_bl I q (by simp))
    | _ => exact absurd (show false = true from hs) Bool.false_ne_true
  | str i =>
    obtain ⟨t, rfl⟩ := rx
    cases y with
    | non => cases ry; exact PySem.EqNone.eq_str_none (fin_bl I q (by simp))
    | bl j => cases ry; exact PySem.EqMixed.eq_str_bool (fin_bl I q (by simp))
    | int j => obtain ⟨t', rfl⟩ := ry; exact PySem.EqMixed.eq_str_int (fin_bl I q (by simp))
    | str j => obtain ⟨t', rfl⟩ := ry; exact eq_str (fin_bl I q dec_str)
    | _ => exact absurd (show false = true from hs) Bool.false_ne_true
  | byt i =>
    obtain ⟨t, rfl⟩ := rx
    cases y with
    | byt j => obtain ⟨t', rfl⟩ := ry; exact PySem.W.eq_bytes (fin_bl I q dec_byt)
    | _ => exact absurd (show false = true from hs) Bool.false_ne_true
  | _ => cases y <;> exact absurd (show false = true from hs) Bool.false_ne_true
theorem op_ne : OpR X (compareOp .NotEq) rNe := by
  intro pins s σ H x y v u Q I rx ry h
  obtain ⟨hs, q⟩ := h
  cases x with
  | non =>
    cases rx
    cases y with
    | non => cases ry; exact PySem.EqNone.ne_none_none (fin_bl I q (by simp))
    | bl j => cases ry; exact PySem.EqNone.ne_none_bool (fin_bl I q (by simp))
    | int j => obtain ⟨t', rfl⟩ := ry; exact PySem.EqNone.ne_none_int (fin_bl I q (by simp))
    | str j => obtain ⟨t', rfl⟩ := ry; exact PySem.EqNone.ne_none_str (fin_bl I q (by simp))
    | _ => exact absurd (show false = true from hs) Bool.false_ne_true
  | bl i =>
    cases rx
    cases y with
    | non => cases ry; exact PySem.EqNone.ne_bool_none (fin_bl I q (by simp))
    | bl j => cases ry; exact ne_bool (fin_bl I q (congrArg not dec_bl))
    | str j => obtain ⟨t', rfl⟩ := ry; exact PySem.EqMixed.ne_bool_str (fin_bl I q (by simp))
    | _ => exact absurd (show false = true from hs) Bool.false_ne_true
  | int i =>
    obtain ⟨t, rfl⟩ := rx
    cases y with
    | non => cases ry; exact PySem.EqNone.ne_int_none (fin_bl I q (by simp))
    | int j => obtain ⟨t', rfl⟩ := ry; exact ne_int (fin_bl I q (congrArg not dec_int))
    | str j => obtain ⟨t', rfl⟩ := ry; exact PySem.EqMixed.ne_int_str (fin_bl I q (by simp))
    | _ => exact absurd (show false = true from hs) Bool.false_ne_true
  | str i =>
    obtain ⟨t, rfl⟩ := rx
    cases y with
    | non => cases ry; exact PySem.EqNone.ne_str_none (fin_bl I q (by simp))
    | bl j => cases ry; exact PySem.EqMixed.ne_str_bool (fin_bl I q (by simp))
    | int j => obtain ⟨t', rfl⟩ := ry; exact PySem.EqMixed.ne_str_int (fin_bl I q (by simp))
    | str j => obtain ⟨t', rfl⟩ := ry; exact ne_str (fin_bl I q (congrArg not dec_str))
    | _ => exact absurd (show false = true from hs) Bool.false_ne_true
  | byt i =>
    obtain ⟨t, rfl⟩ := rx
    cases y with
    | byt j => obtain ⟨t', rfl⟩ := ry; exact PySem.W.ne_bytes (fin_bl I q (congrArg not dec_byt))
    | _ => exact absurd (show false = true from hs) Bool.false_ne_true
  | _ => cases y <;> exact absurd (show false = true from hs) Bool.false_ne_true

theorem op_lt : OpR X (compareOp .Lt) (rI0 fun i j => .bl (decide (i < j))) := opB0 fun _ _ _ _ _ _ _ q => lt_int q
theorem op_le : OpR X (compareOp .LtE) (rI0 fun i j => .bl (decide (i ≤ j))) := opB0 fun _ _ _ _ _ _ _ q => le_int q
theorem op_gt : OpR X (compareOp .Gt) (rI0 fun i j => .bl (decide (j < i))) := opB0 fun _ _ _ _ _ _ _ q => gt_int q
theorem op_ge : OpR X (compareOp .GtE) (rI0 fun i j => .bl (decide (j ≤ i))) := opB0 fun _ _ _ _ _ _ _ q => ge_int q
theorem op_lt_str : OpR X (compareOp .Lt) (fun x y H Q => ∃ i j, x = .str i ∧ y = .str j ∧ Q (.bl (decide (i.cps.toList < j.cps.toList))) H) := by
  intro pins s σ H x y v u Q I rx ry h
  obtain ⟨i, j, rfl, rfl, q⟩ := h
  obtain ⟨t, rfl⟩ := rx
  obtain ⟨t', rfl⟩ := ry
  exact lt_str (fin_bl I q rfl)
/-- the one string within the other -/
theorem op_in_str : OpR X (compareOp .In) (fun x y H Q => ∃ i j, x = .str i ∧ y = .str j ∧ Q (.bl (!(Builtin.Str.occurrences j i 0 j.length 1).isEmpty)) H) := by
  intro pins s σ H x y v u Q I rx ry h
  obtain ⟨i, j, rfl, rfl, q⟩ := h
  obtain ⟨t, rfl⟩ := rx
  obtain ⟨t', rfl⟩ := ry
  exact in_str (fin_bl I q rfl)

/-- is None, is not None: the right side a value none -/
theorem op_isN : OpR X (compareOp .Is) (fun x y H Q => y = .non ∧ Q (.bl (decide (x = .non))) H) := by
  intro pins s σ H x y v u Q I rx ry h
  obtain ⟨rfl, q⟩ := h
  cases ry
  refine is_none_gen (fin_bl I q ?_)
  cases x <;> first
    | (cases rx; rfl)
    | (obtain ⟨t, rfl⟩ := rx; rfl)
theorem op_notN : OpR X (compareOp .IsNot) (fun x y H Q => y = .non ∧ Q (.bl (!decide (x = .non))) H) := by
  intro pins s σ H x y v u Q I rx ry h
  obtain ⟨rfl, q⟩ := h
  cases ry
  refine isnot_none_gen (fin_bl I q ?_)
  cases x <;> first
    | (cases rx; rfl)
    | (obtain ⟨t, rfl⟩ := rx; rfl)

theorem op_notin_str : OpR X (compareOp .NotIn) (fun x y H Q => ∃ i j, x = .str i ∧ y = .str j ∧ Q (.bl (!(!(Builtin.Str.occurrences j i 0 j.length 1).isEmpty))) H) := by
  intro pins s σ H x y v u Q I rx ry h
  obtain ⟨i, j, rfl, rfl, q⟩ := h
  obtain ⟨t, rfl⟩ := rx
  obtain ⟨t', rfl⟩ := ry
  exact notIn_str (fin_bl I q rfl)
/-- is, is not of two objects that are tracked lists or instances -/
def isObj : HO → Bool
  | .lst _ => true
  | .ins _ _ _ => true
  | _ => false
theorem obj_there {pins : List (Addr × Obj)} {s : Shared} {σ : St} {H : Hp} {a : Addr} {o : HO} (I : Inv X pins σ H s) (h : H a = some o) (p : isObj o = true) : ∃ ob, s.heap.get? a = some ob ∧ ob.cls ≠ .type "tuple" := by
  cases o with
  | lst xs =>
    obtain ⟨_, its, n, _, e⟩ : xs.length ≤ sizeLine ∧ ∃ (its : List Value) (n : Nat), Vals xs its ∧ s.heap.get? a = some { cls := .type "list", data := .seq its.toArray n } := I.hok a _ h
    exact ⟨_, e, (by show Value.type "list" ≠ .type "tuple"; decide +kernel)⟩
  | ins C dx fs =>
    have x := I.hok a _ h
    obtain ⟨_, _, _, e, _⟩ := x
    exact ⟨_, e, (by show Value.ref C ≠ .type "tuple"; exact fun z => by cases z)⟩
  | _ => exact absurd (show false = true from p) Bool.false_ne_true
theorem op_is_ref : OpR X (compareOp .Is) (fun x y H Q => ∃ a b oa ob, x = .ref a ∧ y = .ref b ∧ H a = some oa ∧ isObj oa = true ∧ H b = some ob ∧ isObj ob = true ∧ Q (.bl (decide (a = b))) H) := by
  intro pins s σ H x y v u Q I rx ry h
  obtain ⟨a, b, oa, ob, rfl, rfl, ha, pa, hb, pb, q⟩ := h
  cases rx
  cases ry
  obtain ⟨o1, e1, n1⟩ := obj_there I ha pa
  obtain ⟨o2, e2, _⟩ := obj_there I hb pb
  by_cases z : a = b
  · subst z
    exact wpAny_is_ref_self (fin_bl I q (by simp))
  · exact wpAny_is_ref_other z e1 e2 n1 (fin_bl I q (by simp [z]))
theorem op_isnot_ref : OpR X (compareOp .IsNot) (fun x y H Q => ∃ a b oa ob, x = .ref a ∧ y = .ref b ∧ H a = some oa ∧ isObj oa = true ∧ H b = some ob ∧ isObj ob = true ∧ Q (.bl (!decide (a = b))) H) := by
  intro pins s σ H x y v u Q I rx ry h
  obtain ⟨a, b, oa, ob, rfl, rfl, ha, pa, hb, pb, q⟩ := h
  cases rx
  cases ry
  obtain ⟨o1, e1, n1⟩ := obj_there I ha pa
  obtain ⟨o2, e2, _⟩ := obj_there I hb pb
  by_cases z : a = b
  · subst z
    exact wpAny_isNot_ref_self (fin_bl I q (by simp))
  · exact wpAny_isNot_ref_other z e1 e2 n1 (fin_bl I q (by simp [z]))

/-- two rules for one operation: by cases -/
theorem OpR.or {f : Value → Value → Sem Value} {r r' : R2} (h : OpR X f r) (h' : OpR X f r') : OpR X f (fun x y H Q => r x y H Q ∨ r' x y H Q) := by
  intro pins s σ H x y v u Q I rx ry q
  rcases q with q | q
  · exact h pins s σ H x y v u Q I rx ry q
  · exact h' pins s σ H x y v u Q I rx ry q

theorem nomark (b : Expr) {op : CmpOp} (h : op ≠ .In := by decide) (h2 : op ≠ .NotIn := by decide) : behindInMarks op b = false := by
  have e1 : (op == CmpOp.In) = false := by cases op <;> first | rfl | exact absurd rfl h
  have e2 : (op == CmpOp.NotIn) = false := by cases op <;> first | rfl | exact absurd rfl h2
  cases b <;> simp [behindInMarks, e1, e2]
/-- a comparison as a value; hm: nomark b, or (for in, not in) by with_unfolding_all rfl -/
theorem pe_cmpR {op : CmpOp} {r : R2} (ho : OpR X (compareOp op) r) (ha : PE X a ta) (hb : PE X b tb) (hm : behindInMarks op b = false) : PE X (.Compare a [op] [b] pos) (tOp r ta tb) := by
  intro pins s σ H Q I h
  exact wpAny_Compare1 (binT ha hb I h fun v u s2 x y H2 I2 rx ry q => ho pins s2 σ H2 x y v u Q I2 rx ry q) hm
/-- a reading of a value as a test -/
def tTest (t : TE) : TT := fun σ H Q => t σ H fun x H' => ∃ k, x = .bl k ∧ Q k H'
theorem pt_cmpR {op : CmpOp} {r : R2} (ho : OpR X (compareOp op) r) (ha : PE X a ta) (hb : PE X b tb) (hm : behindInMarks op b = false) : PT X (.Compare a [op] [b] pos) (tTest (tOp r ta tb)) := by
  intro pins s σ H Q I h
  refine wpAny_isTrue_Compare1 (thn (ha pins s σ H _ I h) fun v s1 ⟨x, H1, I1, r1, q1⟩ => thn (hb pins s1 σ H1 _ I1 q1) fun u s2 ⟨y, H2, I2, r2, q2⟩ =>
    thn (ho pins s2 σ H2 x y v u _ I2 r1 r2 q2) fun c s3 ⟨z, H3, I3, r3, k, e, q3⟩ => ?_) hm
  subst e
  cases r3
  exact wpAny_truthy_bool ⟨H3, I3, q3⟩
/-- a op1 b op2 c -/
def tChain (r r' : R2) (ta tb tc : TE) : TE := fun σ H Q => ta σ H fun x H1 => tb σ H1 fun y H2 => r x y H2 fun z H3 => ∃ k, z = .bl k ∧
  (if k = true then tc σ H3 fun w' H4 => r' y w' H4 Q else Q (.bl false) H3)
theorem pe_chain {op op' : CmpOp} {r r' : R2} (ho : OpR X (compareOp op) r) (ho' : OpR X (compareOp op') r') (ha : PE X a ta) (hb : PE X b tb) (hc : PE X c tc)
    (hm : lastMarks [op, op'] [b, c] = false := by with_unfolding_all rfl) : PE X (.Compare a [op, op'] [b, c] pos) (tChain r r' ta tb tc) := by
  intro pins s σ H Q I h
  refine Compare_chain (thn (ha pins s σ H _ I h) fun v s1 ⟨x, H1, I1, r1, q1⟩ => chain_link (thn (hb pins s1 σ H1 _ I1 q1) fun u s2 ⟨y, H2, I2, r2, q2⟩ =>
    thn (ho pins s2 σ H2 x y v u _ I2 r1 r2 q2) fun d s3 ⟨z, H3, I3, r3, k, e, q3⟩ => ?_)) hm
  subst e
  cases r3
  refine wpAny_truthy_bool ?_
  cases k with
  | false => exact ite_ff ⟨.bl false, H3, I3, rfl, q3⟩
  | true => exact ite_tt (chain_last (thn (hc pins s3 σ H3 _ I3 q3) fun w' s4 ⟨z', H4, I4, r4, q4⟩ => ho' pins s4 σ H4 y z' u w' Q I4 r2 r4 q4))
theorem pt_chain {op op' : CmpOp} {r r' : R2} (ho : OpR X (compareOp op) r) (ho' : OpR X (compareOp op') r') (ha : PE X a ta) (hb : PE X b tb) (hc : PE X c tc)
    (hm : lastMarks [op, op'] [b, c] = false := by with_unfolding_all rfl) : PT X (.Compare a [op, op'] [b, c] pos) (tTest (tChain r r' ta tb tc)) := by
  intro pins s σ H Q I h
  refine isTrue_chain (thn (ha pins s σ H _ I h) fun v s1 ⟨x, H1, I1, r1, q1⟩ => test_link (thn (hb pins s1 σ H1 _ I1 q1) fun u s2 ⟨y, H2, I2, r2, q2⟩ =>
    thn (ho pins s2 σ H2 x y v u _ I2 r1 r2 q2) fun d s3 ⟨z, H3, I3, r3, k, e, q3⟩ => ?_)) hm
  subst e
  cases r3
  refine wpAny_truthy_bool ?_
  cases k with
  | false =>
    obtain ⟨k', e', q'⟩ := q3
    cases e'
    exact ite_ff ⟨H3, I3, q'⟩
  | true =>
    refine ite_tt (test_last (thn (hc pins s3 σ H3 _ I3 q3) fun w' s4 ⟨z', H4, I4, r4, q4⟩ => thn (ho' pins s4 σ H4 y z' u w' _ I4 r2 r4 q4) fun d' s5 ⟨z2, H5, I5, r5, k2, e2, q5⟩ => ?_))
    subst e2
    cases r5
    exact wpAny_truthy_bool ⟨H5, I5, q5⟩

/-! ### truth -/
/-- a value's truth by the abstract heap -/
def TruV (K : PySem.W.Frag) (x : V) (H : Hp) (k : Bool) : Prop :=
  match x with
  | .non => k = false
  | .bl b => k = b
  | .int i => k = (i != 0)
  | .str y => y.length ≤ sizeLine ∧ k = ((y.length : Int) != 0)
  | .byt y => y.size ≤ sizeLine ∧ k = ((y.size : Int) != 0)
  | .ref p => (∃ xs, SqL K H p xs ∧ k = !xs.isEmpty) ∨ (∃ xs, SqT K H p xs ∧ k = !xs.isEmpty) ∨ ∃ kvs, H p = some (.dK kvs) ∧ k = !kvs.isEmpty
  | _ => False
theorem isEmpty_kv {κ : Type} {kvs : List (κ × V)} {vs : List (κ × Value)} (r : KV kvs vs) : (!vs.isEmpty) = !kvs.isEmpty := by
  cases r <;> rfl
theorem isEmpty_of {xs : List V} {its : List Value} (r : Vals xs its) : (!its.toArray.isEmpty) = !xs.isEmpty := by
  cases r <;> simp
theorem line63 : (sizeLine : Nat) < 2 ^ 63 := by rw [sizeLine_eq]; decide
theorem tru_ok : TruR X (fun x H Q => ∃ k, TruV X.K x H k ∧ Q k H) := by
  intro pins s σ H x v Q I rx h
  obtain ⟨k, e, q⟩ := h
  have hl := line63
  have hs : sizeLine = 16777216 := sizeLine_eq
  cases x with
  | non =>
    cases rx
    have e' : k = false := e
    subst e'
    exact truthy_none ⟨H, I, q⟩
  | bl b =>
    cases rx
    have e' : k = b := e
    subst e'
    exact wpAny_truthy_bool ⟨H, I, q⟩
  | int i =>
    obtain ⟨t, rfl⟩ := rx
    have e' : k = (i != 0) := e
    subst e'
    exact PySem.P.truthy_int ⟨H, I, q⟩
  | str y =>
    obtain ⟨t, rfl⟩ := rx
    obtain ⟨hy, e'⟩ : y.length ≤ sizeLine ∧ k = ((y.length : Int) != 0) := e
    subst e'
    exact PySem.P.truthy_str (by omega) ⟨H, I.tok _, q⟩
  | byt y =>
    obtain ⟨t, rfl⟩ := rx
    obtain ⟨hy, e'⟩ : y.size ≤ sizeLine ∧ k = ((y.size : Int) != 0) := e
    subst e'
    exact PySem.W.truthy_bytes (by omega) ⟨H, I.tok _, q⟩
  | ref p =>
    cases rx
    have e' : (∃ xs, SqL X.K H p xs ∧ k = !xs.isEmpty) ∨ (∃ xs, SqT X.K H p xs ∧ k = !xs.isEmpty) ∨ ∃ kvs, H p = some (.dK kvs) ∧ k = !kvs.isEmpty := e
    rcases e' with ⟨xs, hx, e'⟩ | ⟨xs, hx, e'⟩ | ⟨kvs, hx, e'⟩
    · subst e'
      obtain ⟨its, r, pl, hz⟩ := I.list hx
      have hlen := r.length
      exact wpAny_truthy_list pl.isList (by simp only [List.size_toArray]; omega) ⟨H, I.tok _, by rw [isEmpty_of r]; exact q⟩
    · subst e'
      obtain ⟨its, r, pl, hz⟩ := I.tuple hx
      have hlen := r.length
      exact truthy_tuple pl (by simp only [List.size_toArray]; omega) ⟨H, I.tok _, by rw [isEmpty_of r]; exact q⟩
    · subst e'
      obtain ⟨hz, hS, vs, r, m⟩ : kvs.length ≤ sizeLine ∧ (p == sysModules) = false ∧ ∃ vs, KV kvs vs ∧ s.heap.DictOf (mixKind X.prog X.w) p vs := I.hok p _ hx
      have hlen : kvs.length = vs.length := Paired.length r
      exact wpAny_truthy_dict hS m (by omega) ⟨H, I.tok _, by rw [isEmpty_kv r]; exact q⟩
  | _ => exact (show False from e).elim
/-- any expression whose test is its value's truth (a name, a call, a subscript, a field ..: he by fun _ => rfl) -/
theorem pt_truth (ha : PE X a ta) (he : ∀ whole, isTrue a X.env whole = (do let v ← whole; standAt a.pos; holding [v] (truthy v))) :
    PT X a (fun σ H Q => ta σ H fun x H' => ∃ k, TruV X.K x H' k ∧ Q k H') := by
  intro pins s σ H Q I h
  exact isTrue_plain (thn (ha pins s σ H _ I h) fun v s1 ⟨x, H1, I1, r1, q1⟩ => tru_ok pins s1 σ H1 x v Q I1 r1 q1) (he _)

/-! ### strs and bytes -/
theorem pe_byt {x : List UInt8} {k : Nat} : PE X (.Constant (.bytes x) k pos) (fun _ H Q => Q (.byt x.toArray) H) := fun _ _ _ H _ I h => PySem.W.Constant_bytes ⟨.byt x.toArray, H, I.tok _, ⟨_, rfl⟩, h⟩
theorem op_add_str : OpR X (binaryOp .Add) (fun x y H Q => ∃ i j, x = .str i ∧ y = .str j ∧ i.length + j.length ≤ sizeLine ∧ Q (.str (i ++ j)) H) := by
  intro pins s σ H x y v u Q I rx ry h
  obtain ⟨i, j, rfl, rfl, hz, q⟩ := h
  obtain ⟨t, rfl⟩ := rx
  obtain ⟨t', rfl⟩ := ry
  exact add_str (fun t' tk => ⟨.str (i ++ j), H, I.tok _, ⟨_, rfl⟩, q⟩) hz
theorem iop_add_str : OpR X (inplaceOp .Add) (fun x y H Q => ∃ i j, x = .str i ∧ y = .str j ∧ i.length + j.length ≤ sizeLine ∧ Q (.str (i ++ j)) H) := by
  intro pins s σ H x y v u Q I rx ry h
  obtain ⟨i, j, rfl, rfl, hz, q⟩ := h
  obtain ⟨t, rfl⟩ := rx
  obtain ⟨t', rfl⟩ := ry
  exact iadd_str (fun t' tk => ⟨.str (i ++ j), H, I.tok _, ⟨_, rfl⟩, q⟩) hz
theorem op_add_byt : OpR X (binaryOp .Add) (fun x y H Q => ∃ i j, x = .byt i ∧ y = .byt j ∧ i.size + j.size ≤ 16777216 ∧ Q (.byt (i ++ j)) H) := by
  intro pins s σ H x y v u Q I rx ry h
  obtain ⟨i, j, rfl, rfl, hz, q⟩ := h
  obtain ⟨t, rfl⟩ := rx
  obtain ⟨t', rfl⟩ := ry
  exact PySem.W.KBy.add_bytes hz (fun t' tk => ⟨.byt (i ++ j), H, I.tok _, ⟨_, rfl⟩, q⟩)

def PlainIxT (b : Expr) : Prop := ∀ o i, subscripted b false o i = operate [o, i] (getItem o i)
/-- s[i], 0 ≤ i < len -/
theorem pe_item_str (ha : PE X a ta) (hb : PE X b tb) (hs : PlainIxT b) :
    PE X (.Subscript a b pos) (tOp (fun x y H Q => ∃ z i c, x = .str z ∧ y = .int i ∧ 0 ≤ i ∧ i < 2 ^ 63 ∧ i < z.length ∧ z.cps[i.toNat]? = some c ∧ Q (.str ⟨#[c]⟩) H) ta tb) := by
  intro pins s σ H Q I h
  refine Subscript_ (binT ha hb I h fun v u s2 x y H2 I2 rx ry q => ?_)
  obtain ⟨z, i, c, rfl, rfl, h0, h63, h1, hc, q⟩ := q
  obtain ⟨t, rfl⟩ := rx
  obtain ⟨t', rfl⟩ := ry
  have e : seqIndex? i z.length = some i.toNat := PySem.StrLaws.seqIndex_nonneg h0 h1
  exact tail_any (typeIs_str s2 z t) slot_str_getitem.lookup (getItem_str (c := c) (by
    have e1 : decide (i < -(2 ^ 63 : Int)) = false := decide_eq_false (by omega)
    have e2 : decide (i ≥ 2 ^ 63) = false := decide_eq_false (by omega)
    rw [e1, e2] <;> rfl) (by rw [e]; exact hc) ⟨.str ⟨#[c]⟩, H2, I2.tok _, ⟨_, rfl⟩, q⟩) (hs _ _)
/-- b[i], 0 ≤ i < len -/
theorem pe_item_byt (ha : PE X a ta) (hb : PE X b tb) (hs : PlainIxT b) :
    PE X (.Subscript a b pos) (tOp (fun x y H Q => ∃ (z : List UInt8) (i : Int), x = .byt z.toArray ∧ y = .int i ∧ z.length ≤ sizeLine ∧ 0 ≤ i ∧ i < z.length ∧ Q (.int ((z.getD i.toNat 0).toNat : Nat)) H) ta tb) := by
  intro pins s σ H Q I h
  refine Subscript_ (binT ha hb I h fun v u s2 x y H2 I2 rx ry q => ?_)
  obtain ⟨z, i, rfl, rfl, hz, h0, h1, q⟩ := q
  obtain ⟨t, rfl⟩ := rx
  obtain ⟨t', rfl⟩ := ry
  have hl : sizeLine = 16777216 := sizeLine_eq
  exact tail_any (PySem.W.typeIs_bytes s2 z.toArray t) PySem.W.FB.slot_bytes_getitem.lookup (PySem.W.getItem_bytes (by omega) h0 h1 ⟨.int ((z.getD i.toNat 0).toNat : Nat), H2, I2.tok _, ⟨_, rfl⟩, q⟩) (hs _ _)

/-! ### scalar builtins, by CallR -/
theorem vals1 {x : V} {us : List Value} (r : Vals [x] us) : ∃ u, us = [u] ∧ RelV x u := by
  cases r with
  | cons r1 r2 => cases r2; exact ⟨_, rfl, r1⟩
theorem vals2 {x y : V} {us : List Value} (r : Vals [x, y] us) : ∃ u w', us = [u, w'] ∧ RelV x u ∧ RelV y w' := by
  cases r with
  | cons r1 r2 =>
    cases r2 with
    | cons r3 r4 => cases r4; exact ⟨_, _, rfl, r1, r3⟩
theorem call_abs : CallR X (.builtin "abs") (fun xs H Q => ∃ i, xs = [.int i] ∧ Q (.int (if i < 0 then -i else i)) H) := by
  intro pins s σ H xs us Q I r h
  obtain ⟨i, rfl, q⟩ := h
  obtain ⟨u, rfl, t, rfl⟩ := vals1 r
  exact call_abs_int fun u tk => ⟨.int (if i < 0 then -i else i), H, I.tok _, ⟨_, rfl⟩, q⟩
theorem call_max2 (hc : X.calm = true) : CallR X (.builtin "max") (fun xs H Q => ∃ i j, xs = [.int i, .int j] ∧ Q (.int (if j > i then j else i)) H) := by
  intro pins s σ H xs us Q I r h
  obtain ⟨i, j, rfl, q⟩ := h
  obtain ⟨u, w', rfl, ⟨t, rfl⟩, ⟨t', rfl⟩⟩ := vals2 r
  refine max_two_ints (I.ok.hd hc) fun h' tk k => ⟨_, H, I.kept k, ?_, q⟩
  by_cases hj : j > i
  · rw [if_pos hj, if_pos hj]; exact ⟨_, rfl⟩
  · rw [if_neg hj, if_neg hj]; exact ⟨_, rfl⟩
theorem call_min2 (hc : X.calm = true) : CallR X (.builtin "min") (fun xs H Q => ∃ i j, xs = [.int i, .int j] ∧ Q (.int (if j < i then j else i)) H) := by
  intro pins s σ H xs us Q I r h
  obtain ⟨i, j, rfl, q⟩ := h
  obtain ⟨u, w', rfl, ⟨t, rfl⟩, ⟨t', rfl⟩⟩ := vals2 r
  refine min_two_ints (I.ok.hd hc) fun h' tk k => ⟨_, H, I.kept k, ?_, q⟩
  by_cases hj : j < i
  · rw [if_pos hj, if_pos hj]; exact ⟨_, rfl⟩
  · rw [if_neg hj, if_neg hj]; exact ⟨_, rfl⟩
theorem call_int1 : CallR X (.type "int") (fun xs H Q => (∃ i, xs = [.int i] ∧ Q (.int i) H) ∨ ∃ k, xs = [.bl k] ∧ Q (.int (if k then 1 else 0)) H) := by
  intro pins s σ H xs us Q I r h
  rcases h with ⟨i, rfl, q⟩ | ⟨k, rfl, q⟩
  · obtain ⟨u, rfl, t, rfl⟩ := vals1 r
    exact call_int_int ⟨.int i, H, I, ⟨_, rfl⟩, q⟩
  · obtain ⟨u, rfl, r1⟩ := vals1 r
    cases r1
    exact call_int_bool ⟨.int (if k then 1 else 0), H, I.tok _, ⟨_, rfl⟩, q⟩
theorem call_bool1 : CallR X (.type "bool") (fun xs H Q => (∃ i, xs = [.int i] ∧ Q (.bl (i != 0)) H) ∨ ∃ k, xs = [.bl k] ∧ Q (.bl k) H) := by
  intro pins s σ H xs us Q I r h
  rcases h with ⟨i, rfl, q⟩ | ⟨k, rfl, q⟩
  · obtain ⟨u, rfl, t, rfl⟩ := vals1 r
    exact call_bool_int ⟨.bl (i != 0), H, I, rfl, q⟩
  · obtain ⟨u, rfl, r1⟩ := vals1 r
    cases r1
    exact call_bool_bool ⟨.bl k, H, I, rfl, q⟩
theorem call_str_int : CallR X (.type "str") (fun xs H Q => ∃ i, xs = [.int i] ∧ i.natAbs.log2 < 1920 ∧ Q (.str (toString i)) H) := by
  intro pins s σ H xs us Q I r h
  obtain ⟨i, rfl, hz, q⟩ := h
  obtain ⟨u, rfl, t, rfl⟩ := vals1 r
  exact PySem.P.str_of_int hz ⟨.str _, H, I.tok _, ⟨_, rfl⟩, q⟩
theorem call_ord : CallR X (.builtin "ord") (fun xs H Q => ∃ x, xs = [.str x] ∧ x.length = 1 ∧ Q (.int (x.cps.getD 0 0 : Nat)) H) := by
  intro pins s σ H xs us Q I r h
  obtain ⟨x, rfl, hz, q⟩ := h
  obtain ⟨u, rfl, t, rfl⟩ := vals1 r
  exact ord_of_one hz ⟨.int _, H, I.tok _, ⟨_, rfl⟩, q⟩
theorem call_chr : CallR X (.builtin "chr") (fun xs H Q => ∃ i, xs = [.int i] ∧ 0 ≤ i ∧ i ≤ 1114111 ∧ Q (.str ⟨#[i.toNat]⟩) H) := by
  intro pins s σ H xs us Q I r h
  obtain ⟨i, rfl, h0, h1, q⟩ := h
  obtain ⟨u, rfl, t, rfl⟩ := vals1 r
  exact chr_of_range h0 h1 ⟨.str _, H, I.tok _, ⟨_, rfl⟩, q⟩
/-- len of a str, a bytes, a list, a tuple -/
def LenV (K : PySem.W.Frag) (x : V) (H : Hp) (n : Nat) : Prop :=
  match x with
  | .str y => y.length ≤ sizeLine ∧ n = y.length
  | .byt y => y.size ≤ sizeLine ∧ n = y.size
  | .ref p => (∃ xs, SqL K H p xs ∧ n = xs.length) ∨ ∃ xs, SqT K H p xs ∧ n = xs.length
  | _ => False
theorem call_len : CallR X (.builtin "len") (fun xs H Q => ∃ x n, xs = [x] ∧ LenV X.K x H n ∧ Q (.int n) H) := by
  intro pins s σ H xs us Q I r h
  obtain ⟨x, n, rfl, e, q⟩ := h
  obtain ⟨u, rfl, rx⟩ := vals1 r
  have hl := line63
  have hs : sizeLine = 16777216 := sizeLine_eq
  cases x with
  | str y =>
    obtain ⟨t, rfl⟩ := rx
    obtain ⟨hy, e'⟩ : y.length ≤ sizeLine ∧ n = y.length := e
    subst e'
    exact len_str (by omega) ⟨.int _, H, I.tok _, ⟨_, rfl⟩, q⟩
  | byt y =>
    obtain ⟨t, rfl⟩ := rx
    obtain ⟨hy, e'⟩ : y.size ≤ sizeLine ∧ n = y.size := e
    subst e'
    exact PySem.W.len_bytes (by omega) ⟨.int _, H, I.tok _, ⟨_, rfl⟩, q⟩
  | ref p =>
    cases rx
    have e' : (∃ xs, SqL X.K H p xs ∧ n = xs.length) ∨ ∃ xs, SqT X.K H p xs ∧ n = xs.length := e
    rcases e' with ⟨xs, hx, e'⟩ | ⟨xs, hx, e'⟩
    · subst e'
      obtain ⟨its, r', pl, hz⟩ := I.list hx
      have hlen := r'.length
      exact Calls.call_len_list pl.isList (by simp only [List.size_toArray]; omega) ⟨.int xs.length, H, I.tok _, ⟨_, by simp only [List.size_toArray]; rw [hlen]⟩, q⟩
    · subst e'
      obtain ⟨its, r', pl, hz⟩ := I.tuple hx
      have hlen := r'.length
      exact len_tuple pl (by simp only [List.size_toArray]; omega) ⟨.int xs.length, H, I.tok _, ⟨_, by simp only [List.size_toArray]; rw [hlen]⟩, q⟩
  | _ => exact (show False from e).elim
/-- divmod: a new tuple -/
theorem call_divmod : CallR X (.builtin "divmod") (fun xs H Q => ∃ i j, xs = [.int i, .int j] ∧ CDiv i j ∧ ∀ p, H p = none → Q (.ref p) (upd H p (.tup [.int (i / j), .int (i % j)]))) := by
  intro pins s σ H xs us Q I r h
  obtain ⟨i, j, rfl, ⟨h1, h2⟩, q⟩ := h
  obtain ⟨u, w', rfl, ⟨t, rfl⟩, ⟨t', rfl⟩⟩ := vals2 r
  refine divmod_int (by omega) ?_ (.inl (PyProof.noPylong_small (by omega)))
  rw [Int.fdiv_eq_ediv_of_nonneg i (by omega), Int.fmod_eq_emod_of_nonneg i (by omega)]
  have hn : H s.heap.objs.size = none := I.hok.fresh (Nat.le_refl _)
  refine ⟨.ref s.heap.objs.size, _, ?_, rfl, q _ hn⟩
  refine I.laid (fun b o e => Heap.get?_push_of_some _ e) (Nat.le_refl _) ⟨by simp only [List.length_cons, List.length_nil]; rw [sizeLine_eq]; decide, [.int (i / j) s.toks, .int (i % j) (s.toks + 1)], .cons ⟨_, rfl⟩ (.cons ⟨_, rfl⟩ .nil), ?_⟩
  exact ⟨_, Heap.get?_push_size s.heap rfl, rfl, 0, rfl⟩
end
end L2

namespace L2
open PySem PySem.Spec PyProof.Rows

/-! ### an instance, its attributes a map -/
structure ObjM (h : Heap) (x dx C : Addr) (mA : Str → Option Value) : Prop where
  obj : h.get? x = some (PySem.W.instObj C dx)
  ns : h.Ns1 dx mA
  ne : dx ≠ x

theorem lookIn_ns {h : Heap} {dx : Addr} {mA : Str → Option Value} (n : h.Ns1 dx mA) : ∃ od, h.get? dx = some od ∧ ∀ name, PySem.W.lookIn name od = some (mA name) := by
  obtain ⟨o, es, ep, ho, hd, hk, _, hm⟩ := n
  refine ⟨o, ho, fun name => ?_⟩
  have e := hm name
  unfold nsFind findBy at e
  rw [← Array.find?_toList] at e
  unfold PySem.W.lookIn
  rw [hd]
  dsimp only
  split
  · rename_i y q
    rw [q] at e
    exact congrArg some e
  · rename_i q
    rw [q] at e
    have a : es.toList.any (·.refKey) = false := by
      rw [List.any_eq_false]
      intro y hy
      obtain ⟨z, t, hkey⟩ := hk y (Array.mem_toList_iff.mp hy)
      simp [DictEntry.refKey, hkey]
    have a' : ¬ es.toList.any (·.refKey) = true := by rw [a]; exact Bool.false_ne_true
    rw [if_neg a']
    exact congrArg some e

theorem ObjM.look {h : Heap} {x dx C : Addr} {mA : Str → Option Value} (I : ObjM h x dx C mA) : ∃ od, PySem.W.InstAt h x (PySem.W.instObj C dx) C (some od) ∧ ∀ name, PySem.W.lookIn name od = some (mA name) :=
  let ⟨od, ho, hl⟩ := lookIn_ns I.ns
  ⟨od, ⟨I.obj, rfl, rfl, ho⟩, hl⟩

section
variable {prog : Program} {w : World} {A : Around} {E : Value → Shared → Prop} {s : Shared} {K : PySem.W.Frag} {x dx C f : Addr} {mA : Str → Option Value} {name : Str} {v : Value}

theorem get_map {expr : Bool} {Q : Value → Shared → Prop} (X : K.In s.heap) (I : ObjM s.heap x dx C mA) (hg : PySem.W.plainGet K C name = true) (hh : PySem.W.hasDictIn K C = true)
    (ha : PySem.W.findIn K (.ref C) name = some none) (hv : mA name = some v) (hv' : PySem.W.handedIn v = true) (h : Q v { s with toks := s.toks + 1 }) :
    wpAny (model prog w) A (getAttr (.ref x) name expr) Q E s := by
  obtain ⟨od, J, hl⟩ := I.look
  exact PySem.W.get_value X J (PySem.W.plainGet_of hg).1 (PySem.W.findObj_own hh ha rfl (by rw [hl, hv])) hv' h

theorem get_const {expr : Bool} {a : Value} {Q : Value → Shared → Prop} (X : K.In s.heap) (I : ObjM s.heap x dx C mA) (hg : PySem.W.plainGet K C name = true) (hh : PySem.W.hasDictIn K C = true)
    (ha : PySem.W.findIn K (.ref C) name = some (some a)) (hn : PySem.W.specialIn K a "__get__" = some none) (hc : PySem.W.copiedNames.contains name = false) (hv : mA name = none) (hv' : PySem.W.handedIn a = true)
    (h : Q a { s with toks := s.toks + 1 }) : wpAny (model prog w) A (getAttr (.ref x) name expr) Q E s := by
  obtain ⟨od, J, hl⟩ := I.look
  exact PySem.W.get_value X J (PySem.W.plainGet_of hg).1 (PySem.W.findObj_cls hh ha hn hv' hc (by rw [hl, hv])) hv' h

theorem get_meth {pl : Sem Bool} {Q : Value × List Value → Shared → Prop} (X : K.In s.heap) (I : ObjM s.heap x dx C mA) (hg : PySem.W.plainGet K C name = true)
    (hf : PySem.W.findIn K (.ref C) name = some (some (.ref f))) (ht : PySem.W.isFn K (.ref f) = true) (hv : mA name = none) (h : Q (.ref f, [.ref x]) s) :
    wpAny (model prog w) A (getMethod (.ref x) name pl) Q E s := by
  obtain ⟨od, J, hl⟩ := I.look
  exact PySem.W.method_fn X J (PySem.W.plainGet_of hg).1 (PySem.W.plainGet_of hg).2 hf (beq_iff_eq.mp ht) (by show (PySem.W.lookIn name od).map (·.isSome) = some false; rw [hl, hv]; rfl) h

theorem set_map {ns : List Str} {Q : Unit → Shared → Prop} (X : K.In s.heap) (I : ObjM s.heap x dx C mA)
    (hs : PySem.W.findIn K (.ref C) "__setattr__" = some (some (.builtin "object.__setattr__"))) (hp : PySem.W.plainOver K C = true) (ht : PySem.W.takerIn K C name = some none) (hh : PySem.W.hasDictIn K C = true)
    (hw : PySem.Within mA ns) (hsz : ns.length ≤ sizeLine)
    (h : ∀ h', ObjM h' x dx C (fun y => if y = name then some v else mA y) → Heap.SameBut dx s.heap h' → Q () { s with heap := h', toks := s.toks + 2 }) :
    wpAny (model prog w) A (setAttr (.ref x) name v) Q E s := by
  obtain ⟨od, J, hl⟩ := I.look
  refine PySem.W.set_plain X J hs (PySem.W.osa_open (s := { s with toks := s.toks + 1 }) (r := none) X J hp ht fun b => ?_)
  obtain ⟨cd, hc, hd'⟩ := PySem.W.any_some hh
  have hx : s.heap.get? x = some ⟨.ref C, some dx, .plain, #[]⟩ := I.obj
  refine wpAny_bind (wpAny_pure (wpAny_bind (wpAny_bind (wpAny_loadPart hx (wpAny_bind (PySem.W.Looks.here (s := { s with toks := s.toks + 1 }) (PySem.W.looks_clsIn X hc) ?_))))))
  rw [hd']
  refine wpAny_pure (a := some dx) (wpAny_bind (wpAny_pure (wpAny_bind ?_)))
  refine wpAny_nsSet1 (s := { s with toks := s.toks + 1 }) I.ns fun h' hn2 hs2 => ?_
  obtain ⟨oD, esD, epD, hoD, hdD, hcD⟩ := hn2.count (PySem.Within.cons name v hw)
  refine wpAny_bind (wpAny_lookBehind hoD (by rw [hdD]; exact pastItsLine_dict (Nat.le_trans hcD (by rw [List.length_cons]; omega))) ?_)
  exact wpAny_pure (h _ ⟨(hs2.2 _ (Ne.symm I.ne)).trans I.obj, hn2, I.ne⟩ hs2)

/-- C(..): the dict at the heap's end, the instance behind it; then its __init__ -/
theorem make_map {R : Result → Shared → Prop} {vs : List Value} {kw : List (Str × Value)} (X : K.In s.heap) (hm : PySem.W.makesIn K C = true)
    (hi : PySem.W.findIn K (.ref C) "__init__" = some (some (.ref f))) (hf : PySem.W.typeIn K (.ref f) = some (.type "function"))
    (h : codeAny (model prog w) (A.under (.builtin "type.__call__" ⟨.ref C :: vs, kw⟩)) (.call (.ref f) ⟨.ref (s.heap.objs.size + 1) :: vs, kw⟩) (PySem.W.InitBack (s.heap.objs.size + 1) R)
      { s with heap := (s.heap.push PySem.W.emptyDict).push (PySem.W.instObj C s.heap.objs.size) }) :
    codeAny (model prog w) A (.call (.ref C) ⟨vs, kw⟩) R s := by
  obtain ⟨hh, g, d, t, os⟩ := s
  exact PySem.W.make_core (PySem.W.makes_of X hm) (PySem.W.looks_findIn X hi) (fun self => PySem.W.bind_fn X self hf) (.inl rfl) h
/-- C() where there is no __init__ but object's -/
theorem make_map0 {R : Result → Shared → Prop} (X : K.In s.heap) (hm : PySem.W.makesIn K C = true)
    (hi : PySem.W.findIn K (.ref C) "__init__" = some (some (.builtin "object.__init__")))
    (hb : ∀ self, PySem.W.Looks (model prog w) s.heap (bindSpecial (.builtin "object.__init__") self) (.builtin "object.__init__", [self]))
    (h : codeAny (model prog w) (A.under (.builtin "type.__call__" ⟨[.ref C], []⟩)) (.call (.builtin "object.__init__") ⟨[.ref (s.heap.objs.size + 1)], []⟩) (PySem.W.InitBack (s.heap.objs.size + 1) R)
      { s with heap := (s.heap.push PySem.W.emptyDict).push (PySem.W.instObj C s.heap.objs.size) }) :
    codeAny (model prog w) A (.call (.ref C) ⟨[], []⟩) R s := by
  obtain ⟨hh, g, d, t, os⟩ := s
  exact PySem.W.make_core (PySem.W.makes_of X hm) (PySem.W.looks_findIn X hi) hb (.inr ⟨rfl, rfl⟩) h
end

/-! ### the attributes as a list of pairs -/
def putF (f : Str) (v : V) : List (Str × V) → List (Str × V)
  | [] => [(f, v)]
  | (g, x) :: r => if g = f then (g, v) :: r else (g, x) :: putF f v r
theorem lookup_putF (f g : Str) (v : V) : ∀ fs : List (Str × V), (putF f v fs).lookup g = if g = f then some v else fs.lookup g
  | [] => by
    show List.lookup g [(f, v)] = _
    by_cases h : g = f
    · have hb : (g == f) = true := beq_iff_eq.mpr h
      simp only [List.lookup, hb, if_pos h]
    · have hb : (g == f) = false := beq_eq_false_iff_ne.mpr h
      simp only [List.lookup, hb, if_neg h]
  | (k, x) :: r => by
    have ih := lookup_putF f g v r
    rw [show putF f v ((k, x) :: r) = (if k = f then (k, v) :: r else (k, x) :: putF f v r) from rfl]
    by_cases hk : k = f
    · rw [if_pos hk]
      by_cases h : g = k
      · have hb : (g == k) = true := beq_iff_eq.mpr h
        simp only [List.lookup, hb, if_pos (h.trans hk)]
      · have hb : (g == k) = false := beq_eq_false_iff_ne.mpr h
        simp only [List.lookup, hb, if_neg (fun e : g = f => h (e.trans hk.symm))]
    · rw [if_neg hk]
      by_cases h : g = k
      · have hb : (g == k) = true := beq_iff_eq.mpr h
        simp only [List.lookup, hb, if_neg (fun e : g = f => hk (h.symm.trans e))]
      · have hb : (g == k) = false := beq_eq_false_iff_ne.mpr h
        simp only [List.lookup, hb]
        exact ih
theorem keys_putF (f : Str) (v : V) : ∀ fs : List (Str × V), f ∈ (putF f v fs).map (·.1) ∧ ∀ g, g ∈ fs.map (·.1) → g ∈ (putF f v fs).map (·.1)
  | [] => ⟨by simp [putF], fun g h => by simp at h⟩
  | (k, x) :: r => by
    obtain ⟨i1, i2⟩ := keys_putF f v r
    rw [show putF f v ((k, x) :: r) = (if k = f then (k, v) :: r else (k, x) :: putF f v r) from rfl]
    by_cases hk : k = f
    · rw [if_pos hk]
      subst hk
      exact ⟨by simp, fun g h => by simpa using h⟩
    · rw [if_neg hk]
      refine ⟨?_, fun g h => ?_⟩
      · rw [List.map_cons]
        exact List.mem_cons_of_mem _ i1
      · rw [List.map_cons] at h ⊢
        rcases List.mem_cons.mp h with e | e
        · exact List.mem_cons.mpr (.inl e)
        · exact List.mem_cons_of_mem _ (i2 g e)
theorem length_putF (f : Str) (v : V) : ∀ fs : List (Str × V), (putF f v fs).length ≤ fs.length + 1
  | [] => by simp [putF]
  | (k, x) :: r => by
    have ih := length_putF f v r
    rw [show putF f v ((k, x) :: r) = (if k = f then (k, v) :: r else (k, x) :: putF f v r) from rfl]
    by_cases hk : k = f
    · rw [if_pos hk, List.length_cons, List.length_cons]; omega
    · rw [if_neg hk, List.length_cons, List.length_cons]; omega

theorem RelO.some_of {v : V} {o : Option Value} (r : RelO (some v) o) : ∃ u, o = some u ∧ RelV v u := by
  cases o with
  | none => exact (show False from r).elim
  | some u => exact ⟨u, rfl, r⟩
theorem RelO.none_of {o : Option Value} (r : RelO none o) : o = none := by
  cases o with
  | none => rfl
  | some u => exact (show False from r).elim
theorem handed_of {v : V} {u : Value} (r : RelV v u) : PySem.W.handedIn u = true := by
  cases v with
  | non => cases (show u = Value.none from r); rfl
  | bl b => cases (show u = Value.bool b from r); rfl
  | int i => obtain ⟨t, e⟩ := (show ∃ t, u = Value.int i t from r); cases e; rfl
  | str x => obtain ⟨t, e⟩ := (show ∃ t, u = Value.str x t from r); cases e; rfl
  | byt b => obtain ⟨t, e⟩ := (show ∃ t, u = Value.bytes b t from r); cases e; rfl
  | flt b => obtain ⟨t, e⟩ := (show ∃ t, u = Value.float b t from r); cases e; rfl
  | ref a => cases (show u = Value.ref a from r); rfl
  | ty n => cases (show u = Value.type n from r); rfl

section
variable {P : Program} {w : World} {H H' : Hp} {h h' : Heap} {a C dx : Addr} {fs fs' : List (Str × V)}
theorem ins_get (hok : HOk P w H h) (e : H a = some (.ins C dx fs)) : ∃ mA, ObjM h a dx C mA ∧ (∀ f, RelO (fs.lookup f) (mA f)) ∧ PySem.Within mA (fs.map (·.1)) ∧ fs.length ≤ 1000 ∧ H dx = some (.own a) := by
  obtain ⟨d, z, ne, ob, mA, n, r, q⟩ := (show ObjOk P w H h a (.ins C dx fs) from hok a _ e)
  exact ⟨mA, ⟨ob, n, ne⟩, r, q, z, d⟩
end

/-! ### what of the text a class must have -/
structure Cls (K : PySem.W.Frag) (C : Addr) : Prop where
  pg : PySem.W.plainGet K C Str.empty = true
  hd : PySem.W.hasDictIn K C = true
  po : PySem.W.plainOver K C = true
  sa : PySem.W.findIn K (.ref C) "__setattr__" = some (some (.builtin "object.__setattr__"))
theorem Cls.get {K : PySem.W.Frag} {C : Addr} (c : Cls K C) (f : Str) : PySem.W.plainGet K C f = true := c.pg
/-- no class of it has the name -/
def NoAttr (K : PySem.W.Frag) (C : Addr) (f : Str) : Prop := PySem.W.findIn K (.ref C) f = some none
theorem NoAttr.taker {K : PySem.W.Frag} {C : Addr} {f : Str} (n : NoAttr K C f) : PySem.W.takerIn K C f = some none := by
  unfold PySem.W.takerIn
  rw [show PySem.W.findIn K (.ref C) f = some none from n]
  rfl
/-- a constant of the class -/
structure Con (K : PySem.W.Frag) (C : Addr) (f : Str) (v : V) (u : Value) : Prop where
  at_ : PySem.W.findIn K (.ref C) f = some (some u)
  rel : RelV v u
  get : PySem.W.specialIn K u "__get__" = some none
  cp : PySem.W.copiedNames.contains f = false
/-- a method: a plain def of the class or of one above it -/
structure Meth (K : PySem.W.Frag) (C : Addr) (m : Str) (f : Addr) : Prop where
  at_ : PySem.W.findIn K (.ref C) m = some (some (.ref f))
  fn : PySem.W.isFn K (.ref f) = true
  kp : PySem.W.keepIn K (.ref f) = true

section
variable {X : Cx} {pins : List (Addr × Obj)} {σ : St} {H : Hp} {s : Shared} {a C dx : Addr} {fs : List (Str × V)} {f : Str} {v : V} {A : Around} {E : Value → Shared → Prop}

theorem getattr_ok {b : Bool} {Q : Value → Shared → Prop} (I : Inv X pins σ H s) (e : H a = some (.ins C dx fs)) (c : Cls X.K C) (n : NoAttr X.K C f) (l : fs.lookup f = some v)
    (h : ∀ u s', Inv X pins σ H s' → RelV v u → Q u s') : wpAny (model X.prog X.w) A (getAttr (.ref a) f b) Q E s := by
  obtain ⟨mA, O, r, _, _, _⟩ := ins_get I.hok e
  obtain ⟨u, hu, ru⟩ := RelO.some_of (v := v) (o := mA f) (by rw [← l]; exact r f)
  exact get_map I.kIn O (c.get f) c.hd n hu (handed_of ru) (h u _ (I.tok _) ru)

theorem getcon_ok {b : Bool} {u : Value} {Q : Value → Shared → Prop} (I : Inv X pins σ H s) (e : H a = some (.ins C dx fs)) (c : Cls X.K C) (k : Con X.K C f v u) (l : fs.lookup f = none)
    (h : ∀ s', Inv X pins σ H s' → Q u s') : wpAny (model X.prog X.w) A (getAttr (.ref a) f b) Q E s := by
  obtain ⟨mA, O, r, _, _, _⟩ := ins_get I.hok e
  have hn : mA f = none := RelO.none_of (by rw [← l]; exact r f)
  exact get_const I.kIn O (c.get f) c.hd k.at_ k.get k.cp hn (handed_of k.rel) (h _ (I.tok _))

theorem getmeth_ok {m : Str} {g : Addr} {pl : Sem Bool} {Q : Value × List Value → Shared → Prop} (I : Inv X pins σ H s) (e : H a = some (.ins C dx fs)) (c : Cls X.K C) (k : Meth X.K C m g) (l : fs.lookup m = none)
    (h : Q (.ref g, [.ref a]) s) : wpAny (model X.prog X.w) A (getMethod (.ref a) m pl) Q E s := by
  obtain ⟨mA, O, r, _, _, _⟩ := ins_get I.hok e
  have hn : mA m = none := RelO.none_of (by rw [← l]; exact r m)
  exact get_meth I.kIn O (c.get m) k.at_ k.fn hn h

theorem setattr_ok {y : V} {u : Value} {Q : Unit → Shared → Prop} (I : Inv X pins σ H s) (e : H a = some (.ins C dx fs)) (c : Cls X.K C) (n : NoAttr X.K C f) (hl : fs.length < 1000) (ry : RelV y u)
    (h : ∀ s', Inv X pins σ (upd H a (.ins C dx (putF f y fs))) s' → Q () s') : wpAny (model X.prog X.w) A (setAttr (.ref a) f u) Q E s := by
  obtain ⟨mA, O, r, wi, _, ho⟩ := ins_get I.hok e
  have hz : (fs.map (·.1)).length ≤ sizeLine := by rw [List.length_map, sizeLine_eq]; omega
  refine set_map I.kIn O c.sa c.po n.taker c.hd wi hz fun h' O' sb => h _ ?_
  have hd : ∃ o, h'.get? dx = some o := let ⟨o, _, _, e', _⟩ := O'.ns; ⟨o, e'⟩
  refine I.write (x := a) (e := dx) (by rw [e]; exact True.intro) (.inr ho) (fun b q hb z => (sb.2 b hb).trans z) hd ?_
  refine ⟨by rw [upd_ne O.ne]; exact ho, ?_, O.ne, O'.obj, _, O'.ns, fun g => ?_, fun g hg => ?_⟩
  · have := length_putF f y fs; omega
  · show RelO ((putF f y fs).lookup g) (if g = f then some u else mA g)
    rw [lookup_putF]
    by_cases q : g = f
    · rw [if_pos q, if_pos q]; exact ry
    · rw [if_neg q, if_neg q]; exact r g
  · by_cases q : g = f
    · rw [q]; exact (keys_putF f y fs).1
    · refine (keys_putF f y fs).2 g (wi g fun z => hg ?_)
      show (if g = f then some u else mA g) = none
      rw [if_neg q]; exact z

/-- a new instance, tracked, without attributes -/
theorem Inv.made (I : Inv X pins σ H s) : Inv X pins σ (upd (upd H s.heap.objs.size (.own (s.heap.objs.size + 1))) (s.heap.objs.size + 1) (.ins C s.heap.objs.size []))
    { s with heap := (s.heap.push PySem.W.emptyDict).push (PySem.W.instObj C s.heap.objs.size) } := by
  have e1 : (s.heap.push PySem.W.emptyDict).get? s.heap.objs.size = some PySem.W.emptyDict := Heap.get?_push_size s.heap rfl
  have e2 : ((s.heap.push PySem.W.emptyDict).push (PySem.W.instObj C s.heap.objs.size)).get? (s.heap.objs.size + 1) = some (PySem.W.instObj C s.heap.objs.size) := by
    have := Heap.get?_push_size (s.heap.push PySem.W.emptyDict) (o := PySem.W.instObj C s.heap.objs.size) rfl
    rwa [Heap.size_push] at this
  have e3 : (s.heap.push PySem.W.emptyDict).Ns s.heap.objs.size (fun _ => none) := ⟨PySem.W.emptyDict, #[], _, e1, rfl, (fun e he => absurd he (by simp)), fun _ => rfl⟩
  have I1 := I.laid (a := s.heap.objs.size) (o := .own (s.heap.objs.size + 1)) (h' := s.heap.push PySem.W.emptyDict) (t' := s.toks) (fun b u q => Heap.get?_push_of_some _ q) (Nat.le_refl _) ⟨_, e1⟩
  refine I1.laid (a := s.heap.objs.size + 1) (o := .ins C s.heap.objs.size []) (t' := s.toks) (fun b u q => Heap.get?_push_of_some _ q) (Nat.le_of_eq (Heap.size_push _ _)) ?_
  have ne : s.heap.objs.size ≠ s.heap.objs.size + 1 := Nat.ne_of_lt (Nat.lt_succ_self _)
  refine ⟨by rw [upd_ne ne, upd_same], Nat.zero_le _, ne, e2, fun _ => none, (Heap.Ns1.of_empty e3).at fun o q => Heap.get?_push_of_some _ q, fun _ => True.intro, fun y hy => absurd rfl hy⟩

/-- e.f where nothing but the object is asked: through attributeBase (super) and the last hold -/
theorem attr_of {prog : Program} {w : World} {env : Env} {e : Expr} {f : Str} {pos : Pos} {s : Shared} {Q : Value → Shared → Prop} (hb : attributeBase e f env (eval e env) = eval e env)
    (h : wpAny (model prog w) A (eval e env) (fun o s₁ => wpAny (model prog w) A (getAttr o f true) Q E s₁) E s) : wpAny (model prog w) A (eval (.Attribute e f pos) env) Q E s :=
  Attribute_any_ h (by rw [arm_eval_Attribute, hb])
end

/-! ### readings and rules -/
/-- e.f, an attribute of the instance -/
def tFld (K : PySem.W.Frag) (ta : TE) (f : Str) : TE := fun σ H Q => ta σ H fun x H1 => ∃ a C dx fs v, x = .ref a ∧ H1 a = some (.ins C dx fs) ∧ Cls K C ∧ NoAttr K C f ∧ fs.lookup f = some v ∧ Q v H1
/-- e.f, a constant of the class -/
def tCon (K : PySem.W.Frag) (ta : TE) (f : Str) : TE := fun σ H Q => ta σ H fun x H1 => ∃ a C dx fs v u, x = .ref a ∧ H1 a = some (.ins C dx fs) ∧ Cls K C ∧ Con K C f v u ∧ fs.lookup f = none ∧ Q v H1
/-- e.f = value -/
def sFld (K : PySem.W.Frag) (ta tv : TE) (f : Str) : TS := fun D σ H => tv σ H fun y H1 => ta σ H1 fun x H2 => ∃ a C dx fs, x = .ref a ∧ H2 a = some (.ins C dx fs) ∧ Cls K C ∧ NoAttr K C f ∧ fs.length < 1000 ∧
  D.nx σ (upd H2 a (.ins C dx (putF f y fs)))
/-- an augmented operator on two values -/
def InOp (X : Cx) (op : Operator) (rd : V → V → Hp → VK → Prop) : Prop :=
  ∀ (pins : List (Addr × Obj)) (s : Shared) (σ : St) (H : Hp) (x y : V) (u v : Value) (Q : VK), Inv X pins σ H s → RelV x u → RelV y v → rd x y H Q → wpAny (model X.prog X.w) X.A (inplaceOp op u v) (EP X pins σ Q) X.xe s
/-- e.f op= value -/
def sFldAug (K : PySem.W.Frag) (ta tv : TE) (rd : V → V → Hp → VK → Prop) (f : Str) : TS := fun D σ H => ta σ H fun x H1 => ∃ a C dx fs v, x = .ref a ∧ H1 a = some (.ins C dx fs) ∧ Cls K C ∧ NoAttr K C f ∧ fs.lookup f = some v ∧
  tv σ H1 fun y H2 => rd v y H2 fun z H3 => ∃ dx' fs', H3 a = some (.ins C dx' fs') ∧ fs'.length < 1000 ∧ D.nx σ (upd H3 a (.ins C dx' (putF f z fs')))

section
variable {X : Cx} {o e value : Expr} {f : Str} {pos pos' tpos : Pos} {ta tv : TE}
theorem pe_fld (he : PE X e ta) (hb : attributeBase e f X.env (eval e X.env) = eval e X.env) : PE X (.Attribute e f pos) (tFld X.K ta f) := by
  intro pins s σ H Q I h
  refine attr_of hb (thn (he pins s σ H _ I h) fun u s1 ⟨x, H1, I1, rx, a, C, dx, fs, v, ex, ea, c, n, l, q⟩ => ?_)
  subst ex
  obtain rfl : u = Value.ref a := rx
  exact getattr_ok I1 ea c n l fun u' s2 I2 ru => ⟨v, H1, I2, ru, q⟩
theorem pe_con (he : PE X e ta) (hb : attributeBase e f X.env (eval e X.env) = eval e X.env) : PE X (.Attribute e f pos) (tCon X.K ta f) := by
  intro pins s σ H Q I h
  refine attr_of hb (thn (he pins s σ H _ I h) fun u s1 ⟨x, H1, I1, rx, a, C, dx, fs, v, u0, ex, ea, c, k, l, q⟩ => ?_)
  subst ex
  obtain rfl : u = Value.ref a := rx
  exact getcon_ok I1 ea c k l fun s2 I2 => ⟨v, H1, I2, k.rel, q⟩
theorem ps_fld (ha : PE X o ta) (hv : PE X value tv) (hs : swapsWith value (some (.Attribute o f pos')) pos.line X.env = pure false) : PS X (.Assign [.Attribute o f pos'] value pos) (sFld X.K ta tv f) := by
  intro pins s σ H D I h
  refine plainObj_wpAny_Assign_Attribute (thn (hv pins s σ H _ I h) fun u s1 ⟨y, H1, I1, ry, q⟩ => thn (ha pins s1 σ H1 _ I1 q) fun ov s2 ⟨x, H2, I2, rx, a, C, dx, fs, ex, ea, c, n, l, q2⟩ => ?_) hs
  subst ex
  obtain rfl : ov = Value.ref a := rx
  exact setattr_ok I2 ea c n l ry fun s3 I3 => ⟨σ, _, I3, q2⟩
theorem ps_fldaug {op : Operator} {rd : V → V → Hp → VK → Prop} (ha : PE X o ta) (hv : PE X value tv) (hop : InOp X op rd) : PS X (.AugAssign (.Attribute o f tpos) op value pos) (sFldAug X.K ta tv rd f) := by
  intro pins s σ H D I h
  refine wpAny_AugAssign_AttributeAny (thn (ha pins s σ H _ I h) fun ov s1 ⟨x, H1, I1, rx, a, C, dx, fs, v, ex, ea, c, n, l, q⟩ => ?_)
  subst ex
  obtain rfl : ov = Value.ref a := rx
  refine getattr_ok I1 ea c n l fun u s2 I2 ru => thn (hv pins s2 σ H1 _ I2 q) fun w3 s3 ⟨y, H2, I3, ry, q3⟩ => thn (hop pins s3 σ H2 v y u w3 _ I3 ru ry q3) fun w4 s4 ⟨z, H3, I4, rz, dx', fs', ea', l', q4⟩ => ?_
  exact setattr_ok I4 ea' c n l' rz fun s5 I5 => ⟨σ, _, I5, q4⟩
def rAdd : V → V → Hp → VK → Prop := fun x y H Q => ∃ i j, x = .int i ∧ y = .int j ∧ Q (.int (i + j)) H
def rSub : V → V → Hp → VK → Prop := fun x y H Q => ∃ i j, x = .int i ∧ y = .int j ∧ Q (.int (i - j)) H
theorem in_add : InOp X .Add rAdd := by
  rintro pins s σ H x y u v Q I rx ry ⟨i, j, rfl, rfl, q⟩
  obtain ⟨t, rfl⟩ := (show ∃ t, u = Value.int i t from rx)
  obtain ⟨t', rfl⟩ := (show ∃ t', v = Value.int j t' from ry)
  exact PyProof.Rows.iadd_int ⟨.int (i + j), H, I.tok _, ⟨_, rfl⟩, q⟩
theorem in_sub : InOp X .Sub rSub := by
  rintro pins s σ H x y u v Q I rx ry ⟨i, j, rfl, rfl, q⟩
  obtain ⟨t, rfl⟩ := (show ∃ t, u = Value.int i t from rx)
  obtain ⟨t', rfl⟩ := (show ∃ t', v = Value.int j t' from ry)
  exact PyProof.Rows.isub_int ⟨.int (i - j), H, I.tok _, ⟨_, rfl⟩, q⟩

/-- what is between an instance and its method: the tree of a method call -/
theorem methcall_of {pl : Sem Bool} {m : Str} {apos : Pos} {args : List Expr} {pins : List (Addr × Obj)} {s : Shared} {σ : St} {H : Hp} {Q : Value → Shared → Prop} {te : TE} (he : PE X e te) (I : Inv X pins σ H s)
    (h : te σ H fun x H1 => ∃ a C dx fs g, x = .ref a ∧ H1 a = some (.ins C dx fs) ∧ Cls X.K C ∧ Meth X.K C m g ∧ fs.lookup m = none ∧
      ∀ s1, Inv X pins σ H1 s1 → wpAny (model X.prog X.w) X.A (callWith pos (.ref g) [.ref a] (backTo pos (starEach args X.env)) (backToKw pos (keywordEach [] X.env))) Q X.xe s1)
    (ht : eval (.Call (.Attribute e m apos) args [] pos) X.env = (do
      let ov ← eval e X.env
      standAt apos.atName
      let (f, first) ← holding [ov] (getMethod ov m pl)
      callWith pos f first (backTo pos (starEach args X.env)) (backToKw pos (keywordEach [] X.env)))) :
    wpAny (model X.prog X.w) X.A (eval (.Call (.Attribute e m apos) args [] pos) X.env) Q X.xe s := by
  refine PySem.W.methodCall_KW (pl := pl) (thn (he pins s σ H _ I h) fun u s1 ⟨x, H1, I1, rx, a, C, dx, fs, g, ex, ea, c, k, l, q⟩ => ?_) ht
  subst ex
  obtain rfl : u = Value.ref a := rx
  exact getmeth_ok I1 ea c k l (q s1 I1)
end

/-! ### isinstance -/
section
variable {X : Cx} {pins : List (Addr × Obj)} {σ : St} {H : Hp} {s : Shared} {A : Around} {E : Value → Shared → Prop} {Q : Value → Shared → Prop} {c : Value} {b : Bool}
/-- the type of a value, as the fragment's deciders take it; for an instance its class -/
inductive TyOf (K : PySem.W.Frag) (H : Hp) : V → Value → Prop where
  | non : TyOf K H .non (.type "NoneType")
  | bl (x : Bool) : TyOf K H (.bl x) (.type "bool")
  | int (i : Int) : TyOf K H (.int i) (.type "int")
  | str (x : Str) : TyOf K H (.str x) (.type "str")
  | flt (x : UInt64) : TyOf K H (.flt x) (.type "float")
  | lst {a : Addr} {xs : List V} (e : H a = some (.lst xs)) : TyOf K H (.ref a) (.type "list")
  | frz {a : Addr} {o : Obj} {xs : List V} (e : H a = some (.frz o (.lst xs))) : TyOf K H (.ref a) (.type "list")
  | tup {a : Addr} {xs : List V} (e : H a = some (.tup xs)) : TyOf K H (.ref a) (.type "tuple")
  | dK {a : Addr} {kvs : List (Key × V)} (e : H a = some (.dK kvs)) : TyOf K H (.ref a) (.type "dict")
  | dT {a : Addr} {kvs : List (List Key × V)} (e : H a = some (.dT kvs)) : TyOf K H (.ref a) (.type "dict")
  | ins {a C dx : Addr} {fs : List (Str × V)} (e : H a = some (.ins C dx fs)) (cl : Cls K C) (ha : PySem.W.findIn K (.ref C) "__class__" = some (some (.builtin "object.__class__")))
      (hn : PySem.W.specialIn K (.builtin "object.__class__") "__get__" = some (some (.builtin "getset_descriptor.__get__"))) (htk : PySem.W.takesIn K (.builtin "object.__class__") = some true)
      (hm : PySem.W.mroIn K C (.type "object") = some true) : TyOf K H (.ref a) (.ref C)
/-- isinstance(x, c) for one class c, a built-in or an own one: kitOne's answer -/
theorem isinst_ok {x : V} {u t : Value} (I : Inv X pins σ H s) (rx : RelV x u) (ty : TyOf X.K H x t) (e : PySem.W.kitOne X.K t c = some b) (h : ∀ tk, Q (.bool b) { s with toks := tk }) :
    wpAny (model X.prog X.w) A (call (.builtin "isinstance") [u, c]) Q E s := by
  cases ty with
  | non => cases (show u = Value.none from rx); exact PySem.W.kia_one PySem.W.kitx_none I.kIn True.intro e (fun z => nomatch z) h
  | bl y => cases (show u = Value.bool y from rx); exact PySem.W.kia_one PySem.W.kitx_bool I.kIn True.intro e (fun z => nomatch z) h
  | int i => obtain ⟨t, q⟩ := (show ∃ t, u = Value.int i t from rx); cases q; exact PySem.W.kia_one PySem.W.kitx_int I.kIn True.intro e (fun z => nomatch z) h
  | str y => obtain ⟨t, q⟩ := (show ∃ t, u = Value.str y t from rx); cases q; exact PySem.W.kia_one PySem.W.kitx_str I.kIn True.intro e (fun z => nomatch z) h
  | flt y => obtain ⟨t, q⟩ := (show ∃ t, u = Value.float y t from rx); cases q; exact PySem.W.kia_one PySem.W.kitx_float I.kIn True.intro e (fun z => nomatch z) h
  | @lst a xs ea =>
    cases (show u = Value.ref a from rx)
    obtain ⟨_, _, n, _, h1⟩ := (show ObjOk X.prog X.w H s.heap a (.lst xs) from I.hok a _ ea)
    exact PySem.W.kia_one PySem.W.kitx_list I.kIn ⟨_, h1, rfl⟩ e (fun z => nomatch z) h
  | @frz a ob xs ea =>
    cases (show u = Value.ref a from rx)
    obtain ⟨_, _, _, n, _, h1⟩ := (show ObjOk X.prog X.w H s.heap a (.frz ob (.lst xs)) from I.hok a _ ea)
    exact PySem.W.kia_one PySem.W.kitx_list I.kIn ⟨_, h1, rfl⟩ e (fun z => nomatch z) h
  | @tup a xs ea =>
    cases (show u = Value.ref a from rx)
    obtain ⟨_, _, _, p⟩ := (show ObjOk X.prog X.w H s.heap a (.tup xs) from I.hok a _ ea)
    obtain ⟨o, h1, h2, _⟩ := p
    exact PySem.W.kia_one PySem.W.kitx_tuple I.kIn ⟨o, h1, h2⟩ e (fun z => nomatch z) h
  | @dK a kvs ea =>
    cases (show u = Value.ref a from rx)
    obtain ⟨_, _, vs, _, p⟩ := (show ObjOk X.prog X.w H s.heap a (.dK kvs) from I.hok a _ ea)
    obtain ⟨o, es, ep, h1, h2, _⟩ := p
    exact PySem.W.kia_one PySem.W.kitx_dict I.kIn ⟨o, h1, h2.1⟩ e (fun z => nomatch z) h
  | @dT a kvs ea =>
    cases (show u = Value.ref a from rx)
    obtain ⟨_, _, xs, _, o, es, ep, h1, h2, _⟩ := (show ObjOk X.prog X.w H s.heap a (.dT kvs) from I.hok a _ ea)
    exact PySem.W.kia_one PySem.W.kitx_dict I.kIn ⟨o, h1, h2.1⟩ e (fun z => nomatch z) h
  | @ins a C dx fs ea cl ha hn htk hm =>
    cases (show u = Value.ref a from rx)
    obtain ⟨mA, O, _⟩ := ins_get I.hok ea
    obtain ⟨od, J, _⟩ := O.look
    exact PySem.W.kia_one (PySem.W.kitx_own (cl.get _) cl.hd ha hn htk hm) I.kIn J e (fun z => nomatch z) h
end
end L2

namespace L2
open PySem PySem.Spec PyProof.Rows

/-! ### room -/
structure Room (k : Nat) (A : Around) : Prop where
  hd : A.handled = none
  dp : A.depth + 3 * k + 5 < recursionLimit
  un : A.units + 16 * k + 200 < cLine
theorem Room.mono {j k : Nat} {A : Around} (r : Room k A) (h : j ≤ k) : Room j A := ⟨r.hd, by have := r.dp; omega, by have := r.un; omega⟩
theorem Room.deeper {k : Nat} {A : Around} (r : Room (k + 1) A) (env : Env) : Room k (A.deeper env) :=
  ⟨r.hd, by have := r.dp; show A.depth + 1 + 3 * k + 5 < _; omega, by have := r.un; show A.units + 3 + 16 * k + 200 < _; omega⟩
theorem Room.in1 {k : Nat} {A : Around} (r : Room (k + 1) A) : Room k A.in1 :=
  ⟨r.hd, by have := r.dp; show A.depth + 3 * k + 5 < _; omega, by have := r.un; show A.units + 1 + 16 * k + 200 < _; omega⟩
theorem make_depth {A : Around} {C : Addr} {us : List Value} {kw : List (Str × Value)} : (A.under (.builtin "type.__call__" ⟨.ref C :: us, kw⟩)).depth = A.depth + 1 := by
  first | rfl | simp [Around.under, Code.weight, Code.isCreation, Code.isGuard, Code.isCaller, Code.frames, Code.isFrame, guardIds]
theorem make_units {A : Around} {C : Addr} {us : List Value} {kw : List (Str × Value)} : (A.under (.builtin "type.__call__" ⟨.ref C :: us, kw⟩)).units = A.units + 1 := by
  first | rfl | simp [Around.under, Code.cUnits, Code.frames, Code.isFrame]
theorem Room.make {k : Nat} {A : Around} (r : Room (k + 1) A) (C : Addr) (us : List Value) (kw : List (Str × Value)) : Room k (A.under (.builtin "type.__call__" ⟨.ref C :: us, kw⟩)) :=
  ⟨r.hd, by have := r.dp; rw [make_depth]; omega, by have := r.un; rw [make_units]; omega⟩
theorem Room.depth {k : Nat} {A : Around} (r : Room k A) : A.depth < recursionLimit := by have := r.dp; omega
theorem Room.units {k : Nat} {A : Around} (r : Room k A) : A.units + 64 < cLine := by have := r.un; omega
theorem Room.units0 {k : Nat} {A : Around} (r : Room k A) : A.units < cLine := by have := r.un; omega

/-! ### argument lists and displays -/
def tNil : TA := fun _ H Q => Q [] H
def tCons (ta : TE) (tr : TA) : TA := fun σ H Q => ta σ H fun x H1 => tr σ H1 fun xs H2 => Q (x :: xs) H2
section
variable {X : Cx} {e : Expr} {es : List Expr} {te : TE} {t : TA} {pos : Pos}
theorem pa_nil : PA X [] tNil := fun _ _ _ _ H Q I h => Calls.spliced_nil ⟨[], H, I, .nil, h⟩
theorem pa_cons (ha : PE X e te) (hr : PA X es t) (hs : starEach (e :: es) X.env = (false, eval e X.env) :: starEach es X.env := by rfl) : PA X (e :: es) (tCons te t) := by
  intro pos pins s σ H Q I h
  rw [hs]
  show wpAny _ _ (spliced ((false, eval e X.env) :: backTo pos (starEach es X.env))) _ _ s
  refine Calls.spliced_cons (thn (ha pins s σ H _ I h) fun u s1 ⟨x, H1, I1, r1, q1⟩ => ?_)
  exact thn (hr pos pins s1 σ H1 _ I1 q1) fun us s2 ⟨xs, H2, I2, r2, q2⟩ => ⟨x :: xs, H2, I2, .cons r1 r2, q2⟩

/-- a tuple, a list of written items -/
def tTup (t : TA) : TE := fun σ H Q => t σ H fun xs H1 => xs.length ≤ sizeLine ∧ ∀ p, H1 p = none → Q (.ref p) (upd H1 p (.tup xs))
def tLst (t : TA) : TE := fun σ H Q => t σ H fun xs H1 => xs.length ≤ sizeLine ∧ ∀ p, H1 p = none → Q (.ref p) (upd H1 p (.lst xs))
theorem pe_tup {x1} (h : PA X es t) : PE X (.Tuple es x1 pos) (tTup t) := by
  intro pins s σ H Q I hq
  refine wpAny_Tuple_spliced (thn (h pos pins s σ H _ I hq) fun us s1 ⟨xs, H1, I1, r, z, q⟩ => ⟨by rw [← r.length]; exact z, ?_⟩)
  have hf : H1 s1.heap.objs.size = none := I1.hok.fresh (Nat.le_refl _)
  refine ⟨.ref s1.heap.objs.size, upd H1 s1.heap.objs.size (.tup xs), I1.laid (t' := s1.toks) (fun b u e => Heap.get?_push_of_some _ e) (Nat.le_refl _) ?_, rfl, q _ hf⟩
  exact ⟨z, us, r, ⟨_, Heap.get?_push_size _ rfl, rfl, _, rfl⟩⟩
theorem pe_lst (h : PA X es t) : PE X (.List es pos) (tLst t) := by
  intro pins s σ H Q I hq
  refine wpAny_List_spliced (thn (h pos pins s σ H _ I hq) fun us s1 ⟨xs, H1, I1, r, z, q⟩ => ⟨by rw [← r.length]; exact z, ?_⟩)
  have hf : H1 s1.heap.objs.size = none := I1.hok.fresh (Nat.le_refl _)
  refine ⟨.ref s1.heap.objs.size, upd H1 s1.heap.objs.size (.lst xs), I1.laid (t' := s1.toks) (fun b u e => Heap.get?_push_of_some _ e) (Nat.le_refl _) ?_, rfl, q _ hf⟩
  exact ⟨z, us, 0, r, Heap.get?_push_size _ rfl⟩
end

/-! ### what a def promises -/
/-- a def's promise: the bound arguments in the parameters' order, the heap, the wanted end, the wanted exception -/
abbrev Sp := List V → Hp → VK → XK → Prop
/-- how an exception lies behind a call (file 08 gives it): the callers' frames, abstract heap and state ahead of the call, the wish, the exception, the state -/
abbrev CXT := List Env → Hp → Shared → XK → Value → Shared → Prop

/-- the state at a call -/
structure Env0 (P : Program) (w : World) (K : PySem.W.Frag) (mg : Str → Option Value) (base : Heap) (A : Around) (outer : List Env) (s : Shared) (H : Hp) : Prop where
  frames : A.frames = some outer
  mod : Mod K mg base
  bs : ∀ b o, base.get? b = some o → s.heap.get? b = some o ∧ H b = none
  bsz : base.objs.size ≤ s.heap.objs.size
  funs : s.heap.FunFrames base outer
  frf : ∀ b ∈ frs outer, H b = none
  hok : HOk P w H s.heap
  bare : AllBare s.gens
/-- a call's end -/
def CE (outer : List Env) (P : Program) (w : World) (H : Hp) (s : Shared) (Q : VK) (u : Value) (s' : Shared) : Prop :=
  ∃ v H', s'.os = s.os ∧ AllBare s'.gens ∧ Un (frs outer) [] H H' s.heap s'.heap ∧ HOk P w H' s'.heap ∧ RelV v u ∧ Q v H'
def CR (CX : CXT) (outer : List Env) (P : Program) (w : World) (H : Hp) (s : Shared) (Q : VK) (E : XK) (r : Result) (s' : Shared) : Prop :=
  match r with
  | .ok (.ret u) => CE outer P w H s Q u s'
  | .ok _ => False
  | .error e => CX outer H s E e s'
structure FnOk (P : Program) (w : World) (K : PySem.W.Frag) (mg : Str → Option Value) (base : Heap) (CX : CXT) (k : Nat) (f : Addr) (fd : FuncData) (ps : List Str) (sp : Sp) : Prop where
  len : ∀ vs H Q E, sp vs H Q E → vs.length = ps.length
  run : ∀ (A : Around) (outer : List Env) (s : Shared) (H : Hp) (args : Args) (us : List Value) (vs : List V) (Q : VK) (E : XK), Room k A → Env0 P w K mg base A outer s H → BindsTo s fd args (ps.zip us) → Vals vs us → sp vs H Q E →
    codeAny (model P w) A (.call (.ref f) args) (CR CX outer P w H s Q E) s
theorem FnOk.mono {P : Program} {w : World} {K : PySem.W.Frag} {mg : Str → Option Value} {base : Heap} {CX : CXT} {j k : Nat} {f : Addr} {fd : FuncData} {ps : List Str} {sp : Sp} (F : FnOk P w K mg base CX j f fd ps sp) (h : j ≤ k) :
    FnOk P w K mg base CX k f fd ps sp := ⟨F.len, fun A outer s H args us vs Q E hr => F.run A outer s H args us vs Q E (hr.mono h)⟩
/-- a weaker promise -/
theorem FnOk.imp {P : Program} {w : World} {K : PySem.W.Frag} {mg : Str → Option Value} {base : Heap} {CX : CXT} {k : Nat} {f : Addr} {fd : FuncData} {ps : List Str} {sp sp' : Sp} (F : FnOk P w K mg base CX k f fd ps sp)
    (h : ∀ vs H Q E, sp' vs H Q E → sp vs H Q E) : FnOk P w K mg base CX k f fd ps sp' :=
  ⟨fun vs H Q E q => F.len vs H Q E (h _ _ _ _ q), fun A outer s H args us vs Q E hr he hb hv hs => F.run A outer s H args us vs Q E hr he hb hv (h _ _ _ _ hs)⟩

theorem Env0.make {P : Program} {w : World} {K : PySem.W.Frag} {mg : Str → Option Value} {base : Heap} {A : Around} {outer : List Env} {s : Shared} {H : Hp} (e : Env0 P w K mg base A outer s H) (C : Addr) (us : List Value) (kw : List (Str × Value)) :
    Env0 P w K mg base (A.under (.builtin "type.__call__" ⟨.ref C :: us, kw⟩)) outer s H := ⟨by first | exact e.frames | (simpa [Around.under, Code.envs, Code.isFrame, pushEnvs] using e.frames), e.mod, e.bs, e.bsz, e.funs, e.frf, e.hok, e.bare⟩
theorem Env0.in1 {P : Program} {w : World} {K : PySem.W.Frag} {mg : Str → Option Value} {base : Heap} {A : Around} {outer : List Env} {s : Shared} {H : Hp} (e : Env0 P w K mg base A outer s H) :
    Env0 P w K mg base A.in1 outer s H := ⟨e.frames, e.mod, e.bs, e.bsz, e.funs, e.frf, e.hok, e.bare⟩

section
variable {X : Cx} {pins : List (Addr × Obj)} {σ : St} {H : Hp} {s s' : Shared}
/-- from a body: what a callee wants -/
theorem Inv.env0 (I : Inv X pins σ H s) : Env0 X.prog X.w X.K X.mg X.base X.A X.stack s H :=
  ⟨I.ok.frames, I.ok.mod, I.bs, Nat.le_trans I.ok.bsz I.sz, I.stack, I.stkFree, I.hok, I.bare⟩
/-- behind a call -/
theorem Inv.after {Q : VK} {u : Value} (I : Inv X pins σ H s) (h : CE X.stack X.prog X.w H s Q u s') : EP X pins σ Q u s' := by
  obtain ⟨v, H', os, bare, un, hok, r, q⟩ := h
  obtain ⟨hh, g, d, t, os'⟩ := s'
  obtain rfl : os' = s.os := os
  exact ⟨v, H', I.call (h' := hh) (g' := g) (d' := d) (t' := t) (ch := []) un hok bare (fun b z => absurd z (by simp)), r, q⟩
end

/-! ### calls -/
/-- f(..): the written arguments, then the defaults dvs; E: what is wanted of an exception -/
def tCall (sp : Sp) (dvs : List V) (E : XK) (t : TA) : TE := fun σ H Q => t σ H fun vs H1 => sp (vs ++ dvs) H1 Q E
/-- o.m(..) of an instance of the class at C -/
def tMeth (C : Addr) (m : Str) (sp : Sp) (dvs : List V) (E : XK) (ta : TE) (t : TA) : TE := fun σ H Q => ta σ H fun x H1 => ∃ a dx fs, x = .ref a ∧ H1 a = some (.ins C dx fs) ∧ fs.lookup m = none ∧
  t σ H1 fun vs H2 => sp (x :: (vs ++ dvs)) H2 Q E
/-- C(..): a new instance and its dict, then __init__ -/
def tMake (C : Addr) (sp : Sp) (dvs : List V) (E : XK) (t : TA) : TE := fun σ H Q => t σ H fun vs H1 => ∀ x dx, H1 x = none → H1 dx = none → dx ≠ x →
  sp (.ref x :: (vs ++ dvs)) (upd (upd H1 dx (.own x)) x (.ins C dx [])) (fun v H2 => v = .non ∧ Q (.ref x) H2) E

/-- how the parameters are bound: us the positional arguments, kw the keywords' values by name, ds the defaults that fill up -/
def Binds (K : PySem.W.Frag) (fd : FuncData) (ps : List Str) (ds : List Value) : Prop :=
  ∀ (s : Shared) (us : List Value), K.In s.heap → (us ++ ds).length = ps.length → BindsTo s fd ⟨us, []⟩ (ps.zip (us ++ ds))
/-- every parameter is given -/
theorem Binds.all {K : PySem.W.Frag} {fd : FuncData} {ps : List Str} (h : ∀ us : List Value, us.length = ps.length → bindArgs fd ⟨us, []⟩ = pure (ps.zip us)) : Binds K fd ps [] := fun s us _ hl => by
  rw [List.append_nil] at hl ⊢
  exact .of_eq (h us hl)

/-- an exception of a callee reaches what this body wants of exceptions -/
def Passes (CX : CXT) (X : Cx) (E : XK) : Prop := ∀ (pins : List (Addr × Obj)) (σ : St) (H : Hp) (s : Shared) (e : Value) (s' : Shared), Inv X pins σ H s → CX X.stack H s E e s' → X.xe e s'

section
variable {X : Cx} {CX : CXT} {k : Nat} {f C : Addr} {fd : FuncData} {ps : List Str} {sp : Sp} {dvs : List V} {ds : List Value} {E : XK} {x m : Str} {p pos apos : Pos} {e o : Expr} {es : List Expr} {ta : TE} {t : TA}

/-- the callee runs -/
theorem run_fn {pins : List (Addr × Obj)} {σ : St} {H : Hp} {s : Shared} {Q : VK} {us : List Value} {vs : List V} (F : FnOk X.prog X.w X.K X.mg X.base CX k f fd ps sp) (hr : Room k X.A) (hb : Binds X.K fd ps ds) (hd : Vals dvs ds) (hx : Passes CX X E)
    (I : Inv X pins σ H s) (r : Vals vs us) (h : sp (vs ++ dvs) H Q E) : wpAny (model X.prog X.w) X.A (call (.ref f) us) (EP X pins σ Q) X.xe s := by
  have r2 : Vals (vs ++ dvs) (us ++ ds) := r.append hd
  have hl : (us ++ ds).length = ps.length := by rw [← r2.length]; exact F.len _ _ _ _ h
  refine wpAny_call (codeAny_mono (F.run X.A X.stack s H ⟨us, []⟩ (us ++ ds) (vs ++ dvs) Q E hr I.env0 (hb s us I.kIn hl) r2 h) fun r s' hq => ?_)
  cases r with
  | error e => exact hx pins σ H s e s' I hq
  | ok fl =>
    cases fl with
    | ret u => exact I.after hq
    | next => exact False.elim hq
    | brk => exact False.elim hq
    | cont => exact False.elim hq

theorem pe_call (F : FnOk X.prog X.w X.K X.mg X.base CX k f fd ps sp) (hr : Room k X.A) (hg : Gl X x) (hm : X.mg x = some (.ref f)) (hk : PySem.W.keepIn X.K (.ref f) = true) (hb : Binds X.K fd ps ds) (hd : Vals dvs ds) (hx : Passes CX X E)
    (ha : PA X (e :: es) t) (hdb : (x == ("__debug__" : Str)) = false := by decide) (he : starEach (e :: es) X.env = (false, eval e X.env) :: starEach es X.env := by rfl) (hpl : (backTo pos (starEach es X.env)).any (·.1) = false := by rfl) :
    PE X (.Call (.Name x p) (e :: es) [] pos) (tCall sp dvs E t) := by
  intro pins s σ H Q I h
  refine wpAny_Call_Name_kw (ld_glob I hg hm ?_ hdb)
  refine PySem.W.callWith_K (h₀ := X.base) I.ok.mod.kin hk (thn (ha pos pins s σ H _ I h) fun us s1 ⟨vs, H1, I1, r, q⟩ => ⟨I1.kIn, ?_⟩) he hpl
  exact run_fn F hr hb hd hx I1 r q
theorem pe_call0 (F : FnOk X.prog X.w X.K X.mg X.base CX k f fd ps sp) (hr : Room k X.A) (hg : Gl X x) (hm : X.mg x = some (.ref f)) (hk : PySem.W.keepIn X.K (.ref f) = true) (hb : Binds X.K fd ps ds) (hd : Vals dvs ds) (hx : Passes CX X E)
    (hdb : (x == ("__debug__" : Str)) = false := by decide) : PE X (.Call (.Name x p) [] [] pos) (tCall sp dvs E tNil) := by
  intro pins s σ H Q I h
  refine wpAny_Call_Name_kw (ld_glob I hg hm ?_ hdb)
  exact PySem.W.callWith_K0 I.kIn hk (run_fn (us := []) F hr hb hd hx I .nil h)

/-- o.m(e, ..) -/
theorem pe_meth {pl : Sem Bool} (he : PE X o ta) (c : Cls X.K C) (hm : Meth X.K C m f) (F : FnOk X.prog X.w X.K X.mg X.base CX k f fd ps sp) (hr : Room k X.A) (hb : Binds X.K fd ps ds) (hd : Vals dvs ds) (hx : Passes CX X E) (ha : PA X (e :: es) t)
    (hst : starEach (e :: es) X.env = (false, eval e X.env) :: starEach es X.env := by rfl) (hpl : (backTo pos (starEach es X.env)).any (·.1) = false := by rfl)
    (ht : eval (.Call (.Attribute o m apos) (e :: es) [] pos) X.env = (do
      let ov ← eval o X.env
      standAt apos.atName
      let (f, first) ← holding [ov] (getMethod ov m pl)
      callWith pos f first (backTo pos (starEach (e :: es) X.env)) (backToKw pos (keywordEach [] X.env))) := by rfl) :
    PE X (.Call (.Attribute o m apos) (e :: es) [] pos) (tMeth C m sp dvs E ta t) := by
  intro pins s σ H Q I h
  refine PySem.W.methodCall_KW (pl := pl) (thn (he pins s σ H _ I h) fun u s1 ⟨x, H1, I1, rx, a, dx, fs, ex, ea, l, q⟩ => ?_) ht
  subst ex
  obtain rfl : u = Value.ref a := rx
  refine getmeth_ok I1 ea c hm l ?_
  refine PySem.W.callWith_K (first := [.ref a]) (h₀ := X.base) I.ok.mod.kin hm.kp (thn (ha pos pins s1 σ H1 _ I1 q) fun us s2 ⟨vs, H2, I2, r, q2⟩ => ⟨I2.kIn, ?_⟩) hst hpl
  exact run_fn (us := .ref a :: us) (vs := .ref a :: vs) F hr hb hd hx I2 (.cons rfl r) q2
/-- o.m() -/
theorem pe_meth0 {pl : Sem Bool} (he : PE X o ta) (c : Cls X.K C) (hm : Meth X.K C m f) (F : FnOk X.prog X.w X.K X.mg X.base CX k f fd ps sp) (hr : Room k X.A) (hb : Binds X.K fd ps ds) (hd : Vals dvs ds) (hx : Passes CX X E)
    (ht : eval (.Call (.Attribute o m apos) [] [] pos) X.env = (do
      let ov ← eval o X.env
      standAt apos.atName
      let (f, first) ← holding [ov] (getMethod ov m pl)
      callWith pos f first (backTo pos (starEach [] X.env)) (backToKw pos (keywordEach [] X.env))) := by rfl) :
    PE X (.Call (.Attribute o m apos) [] [] pos) (tMeth C m sp dvs E ta tNil) := by
  intro pins s σ H Q I h
  refine PySem.W.methodCall_KW (pl := pl) (thn (he pins s σ H _ I h) fun u s1 ⟨x, H1, I1, rx, a, dx, fs, ex, ea, l, q⟩ => ?_) ht
  subst ex
  obtain rfl : u = Value.ref a := rx
  refine getmeth_ok I1 ea c hm l ?_
  exact PySem.W.callWith_K0 (first := [.ref a]) I1.kIn hm.kp (run_fn (us := [.ref a]) (vs := [.ref a]) F hr hb hd hx I1 (.cons rfl .nil) q)

/-- what a class must have to be made -/
structure Mk (K : PySem.W.Frag) (C f : Addr) : Prop where
  makes : PySem.W.makesIn K C = true
  init : PySem.W.findIn K (.ref C) "__init__" = some (some (.ref f))
  fn : PySem.W.isFn K (.ref f) = true
  kp : PySem.W.keepIn K (.ref C) = true

theorem run_make {pins : List (Addr × Obj)} {σ : St} {H : Hp} {s : Shared} {Q : VK} {us : List Value} {vs : List V} (M : Mk X.K C f) (F : FnOk X.prog X.w X.K X.mg X.base CX k f fd ps sp) (hr : Room (k + 1) X.A) (hb : Binds X.K fd ps ds) (hd : Vals dvs ds)
    (hx : Passes CX X E) (I : Inv X pins σ H s) (r : Vals vs us)
    (h : ∀ x dx, H x = none → H dx = none → dx ≠ x → sp (.ref x :: (vs ++ dvs)) (upd (upd H dx (.own x)) x (.ins C dx [])) (fun v H2 => v = .non ∧ Q (.ref x) H2) E) :
    wpAny (model X.prog X.w) X.A (call (.ref C) us) (EP X pins σ Q) X.xe s := by
  have hq := h (s.heap.objs.size + 1) s.heap.objs.size (I.hok.fresh (Nat.le_succ _)) (I.hok.fresh (Nat.le_refl _)) (Nat.ne_of_lt (Nat.lt_succ_self _))
  have I2 := Inv.made (C := C) I
  have r2 : Vals (V.ref (s.heap.objs.size + 1) :: (vs ++ dvs)) (Value.ref (s.heap.objs.size + 1) :: (us ++ ds)) := .cons rfl (r.append hd)
  have hl : (Value.ref (s.heap.objs.size + 1) :: us ++ ds).length = ps.length := by
    have e := r2.length
    rw [F.len _ _ _ _ hq] at e
    exact e.symm
  refine wpAny_call (make_map (f := f) I.kIn M.makes M.init (beq_iff_eq.mp M.fn) (codeAny_mono (F.run _ X.stack _ _ ⟨Value.ref (s.heap.objs.size + 1) :: us, []⟩ (Value.ref (s.heap.objs.size + 1) :: (us ++ ds)) _ _ E (hr.make C us [])
    (I2.env0.make C us []) (hb _ (Value.ref (s.heap.objs.size + 1) :: us) I2.kIn hl) r2 hq) fun r s' hq' => ?_))
  cases r with
  | error e => exact hx pins σ _ _ e s' I2 hq'
  | ok fl =>
    cases fl with
    | ret u =>
      obtain ⟨v, H', I3, rv, ev, q3⟩ := I2.after hq'
      subst ev
      exact ⟨rv, ⟨V.ref (s.heap.objs.size + 1), H', I3, rfl, q3⟩⟩
    | next => exact False.elim hq'
    | brk => exact False.elim hq'
    | cont => exact False.elim hq'
theorem pe_make (M : Mk X.K C f) (F : FnOk X.prog X.w X.K X.mg X.base CX k f fd ps sp) (hr : Room (k + 1) X.A) (hg : Gl X x) (hm : X.mg x = some (.ref C)) (hb : Binds X.K fd ps ds) (hd : Vals dvs ds) (hx : Passes CX X E)
    (ha : PA X (e :: es) t) (hdb : (x == ("__debug__" : Str)) = false := by decide) (he : starEach (e :: es) X.env = (false, eval e X.env) :: starEach es X.env := by rfl) (hpl : (backTo pos (starEach es X.env)).any (·.1) = false := by rfl) :
    PE X (.Call (.Name x p) (e :: es) [] pos) (tMake C sp dvs E t) := by
  intro pins s σ H Q I h
  refine wpAny_Call_Name_kw (ld_glob I hg hm ?_ hdb)
  refine PySem.W.callWith_K (h₀ := X.base) I.ok.mod.kin M.kp (thn (ha pos pins s σ H _ I h) fun us s1 ⟨vs, H1, I1, r, q⟩ => ⟨I1.kIn, ?_⟩) he hpl
  exact run_make M F hr hb hd hx I1 r q
theorem pe_make0 (M : Mk X.K C f) (F : FnOk X.prog X.w X.K X.mg X.base CX k f fd ps sp) (hr : Room (k + 1) X.A) (hg : Gl X x) (hm : X.mg x = some (.ref C)) (hb : Binds X.K fd ps ds) (hd : Vals dvs ds) (hx : Passes CX X E)
    (hdb : (x == ("__debug__" : Str)) = false := by decide) : PE X (.Call (.Name x p) [] [] pos) (tMake C sp dvs E tNil) := by
  intro pins s σ H Q I h
  refine wpAny_Call_Name_kw (ld_glob I hg hm ?_ hdb)
  exact PySem.W.callWith_K0 I.kIn M.kp (run_make (us := []) M F hr hb hd hx I .nil h)
end

/-! ### keywords -/
/-- the values of the keywords, from the left -/
def PK (X : Cx) (kws : List Keyword) (t : TA) : Prop :=
  ∀ (pos : Pos) (pins : List (Addr × Obj)) (s : Shared) (σ : St) (H : Hp) (Q : List V → Hp → Prop), Inv X pins σ H s → t σ H Q → wpAny (model X.prog X.w) X.A (evalAll ((backToKw pos (keywordEach kws X.env)).map (·.2))) (AP X pins σ Q) X.xe s
section
variable {X : Cx} {CX : CXT} {k : Nat} {f C : Addr} {fd : FuncData} {ps ks : List Str} {sp : Sp} {E : XK} {x m : Str} {p pos apos kpos : Pos} {e o : Expr} {es : List Expr} {kws : List Keyword} {te ta : TE} {t tk : TA} {nm : Option Str}
theorem pk_nil : PK X [] tNil := fun _ _ _ _ H Q I h => wpAny_evalAll_nil ⟨[], H, I, .nil, h⟩
theorem pk_cons (ha : PE X e te) (hr : PK X kws t) : PK X (⟨nm, e, kpos⟩ :: kws) (tCons te t) := by
  intro pos pins s σ H Q I h
  show wpAny _ _ (evalAll ((do let v ← eval e X.env; standAt pos; pure v) :: (backToKw pos (keywordEach kws X.env)).map (·.2))) _ _ s
  refine wpAny_evalAll_cons (wpAny_bind (thn (ha pins s σ H _ I h) fun u s1 ⟨x, H1, I1, r1, q1⟩ => wpAny_bind (wpAny_standAt (wpAny_pure ?_))))
  exact thn (hr pos pins s1 σ H1 _ I1 q1) fun us s2 ⟨xs, H2, I2, r2, q2⟩ => ⟨x :: xs, H2, I2, .cons r1 r2, q2⟩

/-- how a call with keywords binds: g puts the positional values us and the keywords' values ws (names ks) in the parameters' order, defaults among them -/
structure KBinds (K : PySem.W.Frag) (fd : FuncData) (ps ks : List Str) (g : List Value → List Value → List Value) (gV : List V → List V → List V) : Prop where
  to : ∀ (s : Shared) (us ws : List Value), K.In s.heap → (g us ws).length = ps.length → BindsTo s fd ⟨us, ks.zip ws⟩ (ps.zip (g us ws))
  rel : ∀ {vs : List V} {us : List Value} {zs : List V} {ws : List Value}, Vals vs us → Vals zs ws → Vals (gV vs zs) (g us ws)
def tCallK (sp : Sp) (gV : List V → List V → List V) (E : XK) (t tk : TA) : TE := fun σ H Q => t σ H fun vs H1 => tk σ H1 fun zs H2 => sp (gV vs zs) H2 Q E
variable {g : List Value → List Value → List Value} {gV : List V → List V → List V}
theorem run_fnk {pins : List (Addr × Obj)} {σ : St} {H : Hp} {s : Shared} {Q : VK} {us ws : List Value} {vs zs : List V} (F : FnOk X.prog X.w X.K X.mg X.base CX k f fd ps sp) (hr : Room k X.A) (hb : KBinds X.K fd ps ks g gV) (hx : Passes CX X E)
    (I : Inv X pins σ H s) (r : Vals vs us) (rz : Vals zs ws) (h : sp (gV vs zs) H Q E) : wpAny (model X.prog X.w) X.A (call (.ref f) us (ks.zip ws)) (EP X pins σ Q) X.xe s := by
  have r2 := hb.rel r rz
  have hl : (g us ws).length = ps.length := by rw [← r2.length]; exact F.len _ _ _ _ h
  refine wpAny_call (codeAny_mono (F.run X.A X.stack s H ⟨us, ks.zip ws⟩ (g us ws) (gV vs zs) Q E hr I.env0 (hb.to s us ws I.kIn hl) r2 h) fun r s' hq => ?_)
  cases r with
  | error e => exact hx pins σ H s e s' I hq
  | ok fl =>
    cases fl with
    | ret u => exact I.after hq
    | next => exact False.elim hq
    | brk => exact False.elim hq
    | cont => exact False.elim hq
/-- f(e, .., k = v, ..) -/
theorem pe_callK (F : FnOk X.prog X.w X.K X.mg X.base CX k f fd ps sp) (hr : Room k X.A) (hg : Gl X x) (hm : X.mg x = some (.ref f)) (hk : PySem.W.keepIn X.K (.ref f) = true) (hb : KBinds X.K fd ps ks g gV) (hx : Passes CX X E)
    (ha : PA X (e :: es) t) (hkw : PK X kws tk) (hall : (backToKw pos (keywordEach kws X.env)).all (·.1.isSome) = true := by rfl) (hks : (backToKw pos (keywordEach kws X.env)).filterMap (·.1) = ks := by rfl)
    (hdb : (x == ("__debug__" : Str)) = false := by decide) (he : starEach (e :: es) X.env = (false, eval e X.env) :: starEach es X.env := by rfl)
    (hpl : ((backTo pos (starEach (e :: es) X.env)).any (·.1) || (backToKw pos (keywordEach kws X.env)).any (·.1.isNone)) = false := by rfl) :
    PE X (.Call (.Name x p) (e :: es) kws pos) (tCallK sp gV E t tk) := by
  intro pins s σ H Q I h
  refine wpAny_Call_Name_kw (ld_glob I hg hm ?_ hdb)
  refine PySem.W.callWith_KW (h₀ := X.base) I.ok.mod.kin hk hall (thn (ha pos pins s σ H _ I h) fun us s1 ⟨vs, H1, I1, r, q⟩ => ?_) hpl he
  refine thn (hkw pos pins s1 σ H1 _ I1 q) fun ws s2 ⟨zs, H2, I2, rz, q2⟩ => ⟨I2.kIn, ?_⟩
  rw [hks]
  exact run_fnk F hr hb hx I2 r rz q2
end

/-! ### a def's body keeps its promise -/
/-- names: the parameters first -/
structure FnScope (N P : List Str) (sc : Scope) : Prop where
  kind : sc.kind = .function
  co : sc.isCoroutine = false
  gen : sc.isGenerator = false
  nd : N.Nodup
  pre : N.take P.length = P
  par : ∀ x ∈ P, sc.names.lookup x = some .local ∨ sc.names.lookup x = some .cell
  nofree : ∀ y ∈ sc.names, y.2 ≠ .free

theorem bindL_out {kindOf : Str → Option NameKind} {x : Str} : ∀ {binds : List (Str × Value)} {m : Str → Option Value}, (∀ v, (x, v) ∉ binds) → bindL kindOf binds m x = m x
  | [], _, _ => rfl
  | (n, v) :: r, m, h => by
    unfold bindL
    rw [bindL_out fun w hw => h w (List.mem_cons_of_mem _ hw)]
    split
    · have : x ≠ n := by rintro rfl; exact h v List.mem_cons_self
      simp [this]
    · rfl
theorem bindC_out {kindOf : Str → Option NameKind} {x : Str} : ∀ {binds : List (Str × Value)} {m : Str → Option Value}, (∀ v, (x, v) ∉ binds) → bindC kindOf binds m x = m x
  | [], _, _ => rfl
  | (n, v) :: r, m, h => by
    unfold bindC
    rw [bindC_out fun w hw => h w (List.mem_cons_of_mem _ hw)]
    split
    · rfl
    · have : x ≠ n := by rintro rfl; exact h v List.mem_cons_self
      simp [this]
theorem bindL_get {kindOf : Str → Option NameKind} {x : Str} {v : Value} : ∀ {P : List Str} {vs : List Value} {i : Nat} {m : Str → Option Value}, P.Nodup → P[i]? = some x → vs[i]? = some v → kindOf x = some .local →
    bindL kindOf (P.zip vs) m x = some v
  | [], _, _, _, _, h, _, _ => by simp at h
  | _ :: _, [], _, _, _, _, h, _ => by simp at h
  | p :: P, w :: vs, 0, m, nd, h1, h2, hk => by
    simp at h1 h2; subst h1; subst h2
    show bindL kindOf ((p, w) :: P.zip vs) m p = _
    unfold bindL
    rw [bindL_out fun v hv => (List.nodup_cons.mp nd).1 (List.of_mem_zip hv).1, if_pos hk]
    simp
  | p :: P, w :: vs, i + 1, m, nd, h1, h2, hk => by
    show bindL kindOf ((p, w) :: P.zip vs) m x = _
    unfold bindL
    exact bindL_get (i := i) (List.nodup_cons.mp nd).2 (by simpa using h1) (by simpa using h2) hk
theorem bindC_get {kindOf : Str → Option NameKind} {x : Str} {v : Value} : ∀ {P : List Str} {vs : List Value} {i : Nat} {m : Str → Option Value}, P.Nodup → P[i]? = some x → vs[i]? = some v → kindOf x ≠ some .local →
    bindC kindOf (P.zip vs) m x = some v
  | [], _, _, _, _, h, _, _ => by simp at h
  | _ :: _, [], _, _, _, _, h, _ => by simp at h
  | p :: P, w :: vs, 0, m, nd, h1, h2, hk => by
    simp at h1 h2; subst h1; subst h2
    show bindC kindOf ((p, w) :: P.zip vs) m p = _
    unfold bindC
    rw [bindC_out fun v hv => (List.nodup_cons.mp nd).1 (List.of_mem_zip hv).1, if_neg hk]
    simp
  | p :: P, w :: vs, i + 1, m, nd, h1, h2, hk => by
    show bindC kindOf ((p, w) :: P.zip vs) m x = _
    unfold bindC
    exact bindC_get (i := i) (List.nodup_cons.mp nd).2 (by simpa using h1) (by simpa using h2) hk

/-- the names' values at the entry -/
def start (N : List Str) (vs : List V) : St := vs.map some ++ List.replicate (N.length - vs.length) none

/-- the context of a def's body, at its entry; an exception leaves the frame, then lies as CX says -/
def cxOf (CX : CXT) (P : Program) (w : World) (K : PySem.W.Frag) (mg : Str → Option Value) (base : Heap) (N : List Str) (qual : Str) (scope : Scope) (f : Addr) (cd : Value) (A : Around) (outer : List Env) (s : Shared) (H : Hp) (E : XK) : Cx where
  prog := P
  w := w
  K := K
  mg := mg
  base := base
  A := A.deeper (envOfC qual scope s.heap.objs.size f cd)
  N := N
  s₀ := s
  H₀ := H
  env := envOfC qual scope s.heap.objs.size f cd
  outer := outer
  stack := envOfC qual scope s.heap.objs.size f cd :: outer
  ex := []
  calm := true
  fn := fun _ => true
  pn := []
  xe := fun e s' => wpAny (model P w) (A.deeper (envOfC qual scope s.heap.objs.size f cd)) (leaving (envOfC qual scope s.heap.objs.size f cd) e) (fun _ s'' => CX outer H s E e s'') (fun e' s'' => CX outer H s E e' s'') s'

theorem cell_has {sc : Scope} {n : Nat} {x : Str} (h : sc.names.lookup x = some .cell) : ∃ c, (cellsFrom n sc.names []).lookup x = some c := by
  have q := PySem.W.cellsFrom_some sc.names n [] (.inl h)
  exact Option.isSome_iff_exists.mp q

theorem inv_start {CX : CXT} {P : Program} {w : World} {K : PySem.W.Frag} {mg : Str → Option Value} {base : Heap} {N ps : List Str} {qual : Str} {scope : Scope} {f : Addr} {cd : Value} {A : Around} {outer : List Env} {s s1 : Shared} {H : Hp} {E : XK} {us : List Value} {vs : List V}
    (S : FnScope N ps scope) (hd : A.handled = none) (e0 : Env0 P w K mg base A outer s H) (hl : vs.length = ps.length) (r : Vals vs us)
    (x : InCallC s s.heap.objs.size (bindL (envOfC qual scope s.heap.objs.size f cd).kindOf (ps.zip us) fun _ => none) (cellsFrom (s.heap.objs.size + 1) scope.names []) (bindC (envOfC qual scope s.heap.objs.size f cd).kindOf (ps.zip us) fun _ => none) s1) :
    Inv (cxOf CX P w K mg base N qual scope f cd A outer s H E) [] (start N vs) H s1 := by
  have hpl : ps.length ≤ N.length := by have := congrArg List.length S.pre; rw [List.length_take] at this; omega
  obtain ⟨h1, tk, rfl, hk⟩ := x.done
  have noA : ∀ b : Addr, b ∉ (cxOf CX P w K mg base N qual scope f cd A outer s H E).ex := fun b z => absurd (show b ∈ ([] : List Addr) from z) (by simp)
  refine ⟨⟨e0.mod, S.kind, rfl, rfl, Nat.le_refl _, fun y z c h1 h2 => ?_, fun y hy => ?_, fun y c _ h => ?_, fun _ => hd, Around.frames_deeper e0.frames, .inr ⟨rfl, rfl⟩, fun b z => absurd z (noA b), e0.bs, e0.bsz, fun b _ _ => noA b, fun b z => absurd z (noA b), e0.funs, e0.frf⟩,
    rfl, e0.bare, Un.kept hk, ⟨_, x.toInCall.ns, fun i y v h1 h2 h3 => ?_⟩, fun y c h => ⟨_, x.cell y c h⟩, e0.hok.fresh (Nat.le_refl _), fun y c h => ?_, fun p hp => absurd (show p ∈ ([] : List (Addr × Obj)) from hp) (by simp), e0.hok.kept hk, ?_⟩
  · exact name_of_addr x.apart (PySem.mem_of_lookup h1) (PySem.mem_of_lookup h2)
  · have hy : scope.names.lookup y = some .cell ∨ scope.names.lookup y = some .free := hy
    rcases hy with hy | hy
    · exact cell_has hy
    · exact absurd rfl (S.nofree _ (PySem.mem_of_lookup hy))
  · exact Nat.le_of_lt (x.above y c (PySem.mem_of_lookup h))
  · have hi : i < vs.length := by
      unfold start at h2
      by_cases hi : i < vs.length
      · exact hi
      · rw [List.getElem?_append_right (by simpa using hi)] at h2
        rw [List.getElem?_replicate] at h2
        split at h2 <;> cases h2
    have ha : vs[i]? = some v := by
      unfold start at h2
      rw [List.getElem?_append_left (by simpa using hi), List.getElem?_map] at h2
      cases e : vs[i]? with
      | none => rw [e] at h2; cases h2
      | some a => rw [e] at h2; cases h2; rfl
    obtain ⟨u, hu, rv⟩ := r.get ha
    have hp : ps[i]? = some y := by
      rw [← S.pre, List.getElem?_take_of_lt (by omega)]; exact h1
    have ndP : ps.Nodup := by rw [← S.pre]; exact S.nd.sublist (List.take_sublist _ _)
    refine ⟨u, rv, ?_⟩
    rcases S.par y (List.mem_of_getElem? hp) with k | k
    · exact .inl ⟨k, bindL_get ndP hp hu k⟩
    · obtain ⟨c, e⟩ := cell_has (n := s.heap.objs.size + 1) k
      refine .inr ⟨.inl k, c, e, ?_⟩
      have q := x.cell y c e
      rw [bindC_get ndP hp hu (by show scope.names.lookup y ≠ _; rw [k]; decide)] at q
      exact q
  · exact e0.hok.fresh (Nat.le_of_lt (x.above y c (PySem.mem_of_lookup h)))
  · unfold start
    show _ = N.length
    rw [List.length_append, List.length_map, List.length_replicate]
    omega

/-- THE RULE: a def (or a method) of the text, by its body. The body's reading t is chosen for each entry; it is run at the parameters' values -/
theorem fn_of {CX : CXT} {P : Program} {w : World} {K : PySem.W.Frag} {mg : Str → Option Value} {base : Heap} {k : Nat} {f : Addr} {name qual : Str} {params : Arguments} {body : List Stmt} {scope : Scope} {dV kV doc pm cdv ct oc : Value} {an od : Option Addr}
    {osl : Array (Option Value)} {N ps : List Str} {sp : Sp} (lk : K.lookup f = some ⟨oc, od, .func (PySem.W.fnOf name qual params body scope dV kV doc pm an cdv ct), osl⟩) (hcd : PySem.W.codeIn K cdv qual = true) (S : FnScope N ps scope)
    (len : ∀ vs H Q E, sp vs H Q E → vs.length = ps.length)
    (hbody : ∀ (A : Around) (outer : List Env) (s : Shared) (H : Hp) (vs : List V) (Q : VK) (E : XK), Room k (A.deeper (envOfC qual scope s.heap.objs.size f cdv)) → sp vs H Q E →
      ∃ t, PSs (cxOf CX P w K mg base N qual scope f cdv A outer s H E) body t ∧ t { nx := fun _ H' => Q .non H', rt := Q } (start N vs) H) :
    FnOk P w K mg base CX (k + 1) f (PySem.W.fnOf name qual params body scope dV kV doc pm an cdv ct) ps sp := by
  refine ⟨len, fun A outer s H args us vs Q E hr e0 hb r hsp => ?_⟩
  have hl := len _ _ _ _ hsp
  have KX : K.In s.heap := e0.mod.kin.keeps fun b o e => (e0.bs b o e).1
  have lim : s.heap.NoLimit := e0.mod.nolimit.keeps fun b o e => (e0.bs b o e).1
  have hkind : ∀ y ∈ ps.zip us, scope.names.lookup y.1 = some .local ∨ (scope.names.lookup y.1 = some .cell ∧ ((cellsFrom (s.heap.objs.size + 1) scope.names []).lookup y.1).isSome = true) := fun ⟨n, v⟩ hy => by
    rcases S.par n (List.of_mem_zip hy).1 with q | q
    · exact .inl q
    · exact .inr ⟨q, PySem.W.cellsFrom_some _ _ _ (.inl q)⟩
  refine codeAny_call_function hr.depth (KX _ _ lk) rfl S.co S.gen rfl (PySem.W.codeRec_of KX hcd) (hb _ _ _ _ ?_)
  refine wpAny_newFunctionEnv_cells S.kind hkind fun env he s1 x => ?_
  subst he
  refine ⟨lim.keeps x.toInCall.keep, codeAny_func ?_⟩
  obtain ⟨t, ht, hq⟩ := hbody A outer s H vs Q E (hr.deeper _) hsp
  have I : Inv (cxOf CX P w K mg base N qual scope f cdv A outer s H E) [] (start N vs) H s1 := inv_start S hr.hd e0 hl r x
  refine wpAny_mono (ht [] s1 (start N vs) H _ I hq) (fun fl s' hs => ?_) fun e s' hs => hs
  have fin : ∀ {σ' : St} {H' : Hp} {v : V} {u : Value}, Inv (cxOf CX P w K mg base N qual scope f cdv A outer s H E) [] σ' H' s' → RelV v u → Q v H' → CE outer P w H s Q u s' :=
    fun {σ' H' v u} J rv q => ⟨v, H', J.os, J.bare, J.base, J.hok, rv, q⟩
  cases fl with
  | ret u =>
    obtain ⟨v, σ', H', J, rv, q⟩ := hs
    exact fin J rv q
  | next =>
    obtain ⟨σ', H', J, q⟩ := hs
    exact fin (v := V.non) (u := Value.none) J rfl q
  | brk =>
    obtain ⟨_, _, _, q⟩ := hs
    exact False.elim q
  | cont =>
    obtain ⟨_, _, _, q⟩ := hs
    exact False.elim q
end L2

namespace L2
open PySem PySem.Spec PyProof.Rows
section
variable {X : Cx} {x : Str} {p pos : Pos} {e : Expr} {es : List Expr} {t : TA} {id T : String} {r : List V → Hp → VK → Prop}

def tCB (r : List V → Hp → VK → Prop) (t : TA) : TE := fun σ H Q => t σ H fun vs H1 => r vs H1 Q
/-- f(e, ..), f a built-in function -/
theorem pe_callB (hc : CallR X (.builtin id) r) (hg : Gl X x) (hm : X.mg x = none) (hv : bootBuiltins x = some (.builtin id)) (ha : PA X (e :: es) t) (hn : x ≠ "__name__" := by decide) (hdb : (x == ("__debug__" : Str)) = false := by decide)
    (he : starEach (e :: es) X.env = (false, eval e X.env) :: starEach es X.env := by rfl) (hpl : (backTo pos (starEach es X.env)).any (·.1) = false := by rfl) : PE X (.Call (.Name x p) (e :: es) [] pos) (tCB r t) := by
  intro pins s σ H Q I h
  refine wpAny_Call_Name_kw (ld_blt I hg hm hv ?_ hn hdb)
  exact PyProof.Rows.callWith_builtin1 (thn (ha pos pins s σ H _ I h) fun us s1 ⟨vs, H1, I1, r1, q1⟩ => hc pins s1 σ H1 vs us Q I1 r1 q1) he hpl
/-- T(e, ..), T a built-in type -/
theorem pe_callTy (hc : CallR X (.type T) r) (hg : Gl X x) (hm : X.mg x = none) (hv : bootBuiltins x = some (.type T)) (ha : PA X (e :: es) t) (hn : x ≠ "__name__" := by decide) (hdb : (x == ("__debug__" : Str)) = false := by decide)
    (he : starEach (e :: es) X.env = (false, eval e X.env) :: starEach es X.env := by rfl) (hpl : (backTo pos (starEach es X.env)).any (·.1) = false := by rfl) : PE X (.Call (.Name x p) (e :: es) [] pos) (tCB r t) := by
  intro pins s σ H Q I h
  refine wpAny_Call_Name_kw (ld_blt I hg hm hv ?_ hn hdb)
  exact PyProof.Rows.callWith_type1 (thn (ha pos pins s σ H _ I h) fun us s1 ⟨vs, H1, I1, r1, q1⟩ => hc pins s1 σ H1 vs us Q I1 r1 q1) he hpl
/-- T() -/
theorem pe_callTy0 (hc : CallR X (.type T) r) (hg : Gl X x) (hm : X.mg x = none) (hv : bootBuiltins x = some (.type T)) (hn : x ≠ "__name__" := by decide) (hdb : (x == ("__debug__" : Str)) = false := by decide) :
    PE X (.Call (.Name x p) [] [] pos) (tCB r tNil) := by
  intro pins s σ H Q I h
  refine wpAny_Call_Name_kw (ld_blt I hg hm hv ?_ hn hdb)
  exact PyProof.Rows.callWith_type0 (hc pins s σ H [] [] Q I .nil h)
end
end L2

namespace HT
open PySem PyProof.Rows

/-- t < u of tuples of ints -/
def lexLt : List Int → List Int → Bool
  | [], [] => false
  | [], _ :: _ => true
  | _ :: _, [] => false
  | x :: xs, y :: ys => if x = y then lexLt xs ys else decide (x < y)
theorem lexLt_cons (x y : Int) (xs ys : List Int) : lexLt (x :: xs) (y :: ys) = if x = y then lexLt xs ys else decide (x < y) := rfl
theorem lexLt_nil_nil : lexLt [] [] = false := rfl
theorem lexLt_nil_cons (y : Int) (ys : List Int) : lexLt [] (y :: ys) = true := rfl
theorem lexLt_cons_nil (x : Int) (xs : List Int) : lexLt (x :: xs) [] = false := rfl

theorem eqAt_int (A : Around) (s : Shared) (a : Int) (t : Tok) (c : Int) (u : Tok) : ∃ e, SeqAt.EqAt A s (.int a t) (.int c u) e ∧ (e = true ↔ a = c) :=
  ⟨(a == c), SeqAt.EqAt.int_int a t c u, by simp⟩
theorem rcLt_int (A : Around) (s : Shared) (a : Int) (t : Tok) (c : Int) (u : Tok) (prog : Program) (w : World) (E : Value → Shared → Prop) (Q : Value → Shared → Prop) (h : Q (.bool (decide (a < c))) s) :
    wpAny (model prog w) A (richCompare .Lt (.int a t) (.int c u)) Q E s :=
  (PyProof.Rows.lt_int h : wpAny (model prog w) A (compareOp .Lt (.int a t) (.int c u)) Q E s)

section
open PySem.SeqAt
open PySem.AutoSeq1 (wpAny_loadPart')
open PySem.MeetsSeq PySem.MeetsSeq2 PySem.MeetsSeq3

theorem tuple_lt_ints (l b : Addr) (items items2 : Array Value) (n n2 : Nat) (dd dd2 : Option Addr) (sl sl2 : Array (Option Value)) (ns ms : List Int) (hi : IntsAre items.toList ns) (hj : IntsAre items2.toList ms) :
    Meets (Builtin.«tuple.__lt__» ⟨[.ref l, .ref b], []⟩)
      (fun _ R s => s.heap.get? l = some { cls := .type "tuple", dict := dd, data := .seq items n, slots := sl } ∧ s.heap.get? b = some { cls := .type "tuple", dict := dd2, data := .seq items2 n2, slots := sl2 } ∧
        R (.ok (.ret (.bool (lexLt ns ms)))) s) :=
  .of_wp fun prog w A R s h => by
    obtain ⟨hp, g, d, tk, os⟩ := s; obtain ⟨hl, hb, h⟩ := h
    have f2 := AutoSeq1.sub_tuple_tuple
    have z1 : items.size = ns.length := by rw [← hi.length]; simp
    have z2 : items2.size = ms.length := by rw [← hj.length]; simp
    wp_walk using wpAny_loadPart' hl, wpAny_loadPart' hb, wpAny_forIn_list _ (fun rest b s' => b.1 = none ∧ s' = ⟨hp, g, d, tk, os⟩ ∧ ∃ (vs ws : List Value) (ns' ms' : List Int), rest = vs.zip ws ∧
      IntsAre vs ns' ∧ IntsAre ws ms' ∧ ns'.length + items2.size = ms'.length + items.size ∧ R (.ok (.ret (.bool (lexLt ns' ms')))) ⟨hp, g, d, tk, os⟩) _
    case turn =>
      rintro ⟨y, x⟩ rest b s' ⟨hb', rfl, vs, ws, ns', ms', hz, hvi, hwi, hlen, hR⟩
      cases hvi with
      | nil => rw [List.zip_nil_left] at hz; cases hz
      | cons a t hvi' =>
        cases hwi with
        | nil => rw [List.zip_nil_right] at hz; cases hz
        | cons c u hwi' =>
          rw [List.zip_cons_cons] at hz
          injection hz with hyx hrest
          injection hyx with hy hx
          subst hy hx
          rw [lexLt_cons] at hR
          simp only [List.length_cons] at hlen
          obtain ⟨e, he, hiff⟩ := eqAt_int A.in1 ⟨hp, g, d, tk, os⟩ a t c u
          refine wpAny_bind (he prog w _ _ ?_)
          cases e with
          | true =>
            rw [if_pos (hiff.mp rfl)] at hR
            wp_walk
            exact ⟨rfl, rfl, _, _, _, _, hrest, hvi', hwi', by omega, hR⟩
          | false =>
            rw [if_neg (fun q => absurd (hiff.mpr q) Bool.false_ne_true)] at hR
            have hri := rcLt_int A.in1 ⟨hp, g, d, tk, os⟩ a t c u prog w
            wp_walk using hri
            exact ⟨_, rfl, by simpa using hR⟩
    case fin =>
      rintro ⟨b1, b2⟩ s' ⟨hb', rfl, vs, ws, ns', ms', hz, hvi, hwi, hlen, hR⟩
      simp only at hb'
      subst hb'
      have hv : lexLt ns' ms' = decide (items.size < items2.size) := by
        cases hvi with
        | nil =>
          cases hwi with
          | nil =>
            simp only [List.length_nil] at hlen
            rw [lexLt_nil_nil]
            exact (decide_eq_false (by omega)).symm
          | cons c u hw =>
            simp only [List.length_nil, List.length_cons] at hlen
            rw [lexLt_nil_cons]
            exact (decide_eq_true (by omega)).symm
        | cons a t hv =>
          cases hwi with
          | nil =>
            simp only [List.length_nil, List.length_cons] at hlen
            rw [lexLt_cons_nil]
            exact (decide_eq_false (by omega)).symm
          | cons c u hw =>
            rw [List.zip_cons_cons] at hz
            cases hz
      rw [hv] at hR
      wp_walk
      exact ⟨_, rfl, by simpa [Builtin.Tuple.tupleCompareSizes] using hR⟩
    case h =>
      exact ⟨rfl, rfl, items.toList, items2.toList, ns, ms, rfl, hi, hj, by omega, h⟩
end

section
variable {prog : Program} {w : World} {A : Around} {E : Value → Shared → Prop} {s : Shared}

theorem lt_tupInts {l b : Addr} {items items2 : Array Value} {ns ms : List Int} {Q : Value → Shared → Prop} (hl : IsTup s.heap l items) (hb : IsTup s.heap b items2) (hi : IntsAre items.toList ns) (hj : IntsAre items2.toList ms)
    (hu : A.units < cLine) (h : Q (.bool (lexLt ns ms)) s) : wpAny (model prog w) A (compareOp .Lt (.ref l) (.ref b)) Q E s := by
  obtain ⟨⟨cls, dd, data, sl⟩, ho, hc, n, hd⟩ := id hl
  obtain ⟨⟨cls2, dd2, data2, sl2⟩, ho2, hc2, n2, hd2⟩ := id hb
  simp only at hc hd hc2 hd2
  subst hc hd hc2 hd2
  exact richCompare_meets_room (op := .Lt) ⟨_, ho, rfl⟩ ⟨_, ho2, rfl⟩ PySem.F.slot_tuple_lt PySem.F.entry_tuple_lt (PySem.F.args_tuple_lt_2 _ _) (tuple_lt_ints l b items items2 n n2 dd dd2 sl sl2 ns ms hi hj)
    ⟨ho, ho2, show Value.bool (lexLt ns ms) ≠ Value.notImplemented ∧ Q (.bool (lexLt ns ms)) s from ⟨(fun x => nomatch x), h⟩⟩ hu

/-- t + u, t not empty -/
theorem cat_tup {t b : Addr} {vs ws : List Value} {Q : Value → Shared → Prop} (ht : IsTup s.heap t vs.toArray) (hb : IsTup s.heap b ws.toArray) (hv : vs ≠ [])
    (h1 : ws = [] → Q (.ref t) s) (h2 : ws ≠ [] → Q (.ref s.heap.objs.size) { s with heap := s.heap.push { cls := .type "tuple", data := .seq (vs ++ ws).toArray } })
    (hsz : vs.length + ws.length ≤ sizeLine) : wpAny (model prog w) A (binaryOp .Add (.ref t) (.ref b)) Q E s := by
  obtain ⟨⟨cls, dd, data, sl⟩, ho, hc, n, hd⟩ := id ht
  obtain ⟨⟨cls2, dd2, data2, sl2⟩, ho2, hc2, n2, hd2⟩ := id hb
  simp only at hc hd hc2 hd2
  subst hc hd hc2 hd2
  have e : vs.toArray ++ ws.toArray = (vs ++ ws).toArray := by simp
  by_cases hw : ws = []
  · exact concat_meets ⟨_, ho, rfl⟩ ⟨_, ho2, rfl⟩ noFill_tuple_add seq_tuple_add PySem.F.slot_tuple_add PySem.F.entry_tuple_add (PySem.F.args_tuple_add_2 _ _)
      (tuple_addW1 t b vs.toArray ws.toArray n n2 dd dd2 sl sl2 (by simpa using hv) (by simp [hw])) ⟨ho, ho2, h1 hw⟩
  · refine concat_meets ⟨_, ho, rfl⟩ ⟨_, ho2, rfl⟩ noFill_tuple_add seq_tuple_add PySem.F.slot_tuple_add PySem.F.entry_tuple_add (PySem.F.args_tuple_add_2 _ _)
      (tuple_addW2 t b vs.toArray ws.toArray n n2 dd dd2 sl sl2 (by simpa using hv) (by simpa using hw) (by rw [List.size_toArray, List.size_toArray]; exact hsz)) ⟨ho, ho2, ?_⟩
    rw [e]
    exact h2 hw

/-! ### t[a:b], not the whole -/
/-- a slice's bound as a place among n (d where it is left out) -/
def sIx (n d : Nat) : Option Int → Nat
  | none => d
  | some v => if v < 0 then (v + (n : Int)).toNat else min v.toNat n
theorem sIx_none (n d : Nat) : sIx n d none = d := rfl
theorem sIx_nat (n d k : Nat) : sIx n d (some (k : Int)) = min k n := by
  show (if (k : Int) < 0 then ((k : Int) + (n : Int)).toNat else min (k : Int).toNat n) = min k n
  rw [if_neg (by omega), Int.toNat_natCast]
theorem sIx_le (n d : Nat) (hd : d ≤ n) (o : Option Int) : sIx n d o ≤ n := by
  cases o with
  | none => exact hd
  | some v =>
    show (if v < 0 then (v + (n : Int)).toNat else min v.toNat n) ≤ n
    by_cases hv : v < 0
    · rw [if_pos hv]; omega
    · rw [if_neg hv]; exact Nat.min_le_right _ _
theorem clip_eq (v : Int) (n d : Nat) : (if v < 0 then max (v + (n : Int)) 0 else min v (n : Int)) = ((sIx n d (some v) : Nat) : Int) := by
  show (if v < 0 then max (v + (n : Int)) 0 else min v (n : Int)) = (((if v < 0 then (v + (n : Int)).toNat else min v.toNat n) : Nat) : Int)
  by_cases hv : v < 0
  · simp only [if_pos hv]; omega
  · simp only [if_neg hv]; omega
theorem adjust_gen (lo hi : Option Int) (n : Nat) : Builtin.Slice.sliceAdjust lo hi 1 (n : Int) = (((sIx n 0 lo : Nat) : Int), ((sIx n n hi : Nat) : Int)) := by
  have h1 : ¬ ((1 : Int) < 0) := by omega
  unfold Builtin.Slice.sliceAdjust
  simp only [h1, if_false]
  refine Prod.ext ?_ ?_
  · cases lo with
    | none => rfl
    | some v => exact clip_eq v n 0
  · cases hi with
    | none => rfl
    | some v => exact clip_eq v n n
theorem places_gen (i j : Nat) : Builtin.Slice.slicePlaces (i : Int) (j : Int) 1 = j - i := by
  unfold Builtin.Slice.slicePlaces
  have h1 : (1 : Int) > 0 := by omega
  simp only [h1, if_true, Int.ediv_one]
  split <;> omega
theorem slicePart_ {v : Value} {o : Option Int} {Q : Option Int → Shared → Prop} (p : IsPart v o) (h : Q o s) : wpAny (model prog w) A (Builtin.Slice.slicePartIndex v) Q E s := by
  cases p with
  | none => exact slicePart_none h
  | int i t => exact slicePart_int h
theorem sliceApplied_gen {sl : Addr} {vl vu : Value} {lo hi : Option Int} {n : Nat} {Q : Int × Int × Nat → Shared → Prop} (hs : s.heap.IsSliceOf sl vl vu .none) (pl : IsPart vl lo) (pu : IsPart vu hi)
    (h : Q (((sIx n 0 lo : Nat) : Int), 1, sIx n n hi - sIx n 0 lo) s) : wpAny (model prog w) A (Builtin.Slice.sliceApplied (.ref sl) (pure (n : Int))) Q E s := by
  obtain ⟨os, hos, hcs, hds⟩ := id hs
  unfold Builtin.Slice.sliceApplied Builtin.Slice.sliceFields
  refine wpAny_bind (wpAny_bind (wpAny_field hos hds (x := vl) rfl (wpAny_bind (wpAny_field hos hds (x := vu) rfl (wpAny_bind (wpAny_field hos hds (x := .none) rfl (wpAny_pure ?_)))))))
  refine wpAny_bind (slicePart_none ?_)
  show wpAny _ _ (if ((1 : Int) == 0) = true then _ else _) _ _ s
  rw [if_neg (by decide)]
  refine wpAny_bind (slicePart_ pl (wpAny_bind (slicePart_ pu (wpAny_bind (wpAny_pure ?_)))))
  show wpAny _ _ (match Builtin.Slice.sliceAdjust lo hi 1 (n : Int) with | (lo, hi) => pure (lo, (1 : Int), Builtin.Slice.slicePlaces lo hi 1)) _ _ s
  rw [adjust_gen lo hi n]
  show wpAny _ _ (pure (((sIx n 0 lo : Nat) : Int), (1 : Int), Builtin.Slice.slicePlaces ((sIx n 0 lo : Nat) : Int) ((sIx n n hi : Nat) : Int) 1)) _ _ s
  rw [places_gen]
  exact wpAny_pure h
theorem pick_gen (xs : Array Value) (i k : Nat) : ((List.range k).filterMap fun (m : Nat) => xs[((i : Int) + (m : Int) * 1).toNat]?).toArray = ((xs.toList.drop i).take k).toArray := by
  have e : (fun (m : Nat) => xs[((i : Int) + (m : Int) * 1).toNat]?) = fun m => xs[i + m]? := by
    funext m
    have : ((i : Int) + (m : Int) * 1).toNat = i + m := by omega
    rw [this]
  rw [e]
  have := pick_run xs i k
  rw [List.filterMap_map] at this
  have e2 : ((fun x => xs[x]?) ∘ fun x => i + x) = fun m => xs[i + m]? := rfl
  rw [e2] at this
  rw [this]

theorem getItem_tuple_cut {t sl : Addr} {items : Array Value} {vl vu : Value} {lo hi : Option Int} {Q : Value → Shared → Prop} (ht : IsTup s.heap t items) (hs : s.heap.IsSliceOf sl vl vu .none) (pl : IsPart vl lo) (pu : IsPart vu hi)
    (hw : ¬ (sIx items.size 0 lo = 0 ∧ sIx items.size items.size hi = items.size))
    (h : Q (.ref s.heap.objs.size) { s with heap := s.heap.push { cls := .type "tuple", data := .seq ((items.toList.drop (sIx items.size 0 lo)).take (sIx items.size items.size hi - sIx items.size 0 lo)).toArray } })
    (hsz : items.size ≤ sizeLine) : wpAny (model prog w) A (getItem (.ref t) (.ref sl)) Q E s := by
  have htake : sizeOk (.seq ((items.toList.drop (sIx items.size 0 lo)).take (sIx items.size items.size hi - sIx items.size 0 lo)).toArray) := by
    show ((items.toList.drop (sIx items.size 0 lo)).take (sIx items.size items.size hi - sIx items.size 0 lo)).toArray.size ≤ sizeLine
    rw [List.size_toArray, List.length_take, List.length_drop, Array.length_toList]
    omega
  have hj : sIx items.size items.size hi ≤ items.size := sIx_le _ _ (Nat.le_refl _) hi
  obtain ⟨os, hos, hcs, hds⟩ := id hs
  have hTs : s.TypeIs (.ref sl) "slice" := ⟨os, hos, hcs⟩
  unfold getItem
  try with_reducible refine wpAny_holding ?_
  first | refine wpAny_bind (wpAny_pure ?_) | skip
  refine wpAny_bind (wpAny_sequenceKey ht.typeIs (by decide) ?_)
  refine wpAny_bind (wpAny_callSpecial?_slot (name := Str.ofString "__getitem__") ht.typeIs PyProof.Rows.slot_tuple_getitem
    (wpAny_call_entry PyProof.Rows.slot_tuple_getitem ht.typeIs entry_tuple_getitem ?_ (args_tuple_getitem _ _)))
  show wpAny _ _ (Builtin.Tuple.tupleItemsOf (.ref t) >>= _) _ _ s
  refine wpAny_bind (tupleItemsOf_ ht ?_)
  refine wpAny_bind (wpAny_typeOf hTs ?_)
  rw [if_pos (by decide)]
  refine wpAny_bind (sliceApplied_gen hs pl pu ?_)
  have hno : ¬ ((((sIx items.size 0 lo : Nat) : Int) == 0 && (1 : Int) == 1 && (sIx items.size items.size hi - sIx items.size 0 lo) == items.size) = true) := by
    intro q
    rw [Bool.and_eq_true, Bool.and_eq_true] at q
    have q1 : ((sIx items.size 0 lo : Nat) : Int) = 0 := eq_of_beq q.1.1
    have q2 : sIx items.size items.size hi - sIx items.size 0 lo = items.size := eq_of_beq q.2
    exact hw ⟨by omega, by omega⟩
  show wpAny _ _ (if (((sIx items.size 0 lo : Nat) : Int) == 0 && (1 : Int) == 1 && (sIx items.size items.size hi - sIx items.size 0 lo) == items.size) = true then _ else _) _ _ s
  rw [if_neg hno, pick_gen]
  first
    | exact wpAny_bind (m := Builtin.Tuple.tupleExact _) (wpAny_newObj_type (wpAny_pure ⟨_, rfl, wpAny_pure h⟩) htake)
    | exact wpAny_bind (m := Builtin.Tuple.tupleExact _) (wpAny_newObj_type (wpAny_bind (wpAny_pure (wpAny_pure ⟨_, rfl, wpAny_pure h⟩))) htake)
    | exact wpAny_bind (wpAny_bind (m := Builtin.Tuple.tupleExact _) (wpAny_newObj_type (wpAny_pure (wpAny_pure ⟨_, rfl, wpAny_pure h⟩)) htake))
    | exact wpAny_bind (wpAny_bind (m := Builtin.Tuple.tupleExact _) (wpAny_newObj_type (wpAny_pure ⟨_, rfl, wpAny_pure h⟩) htake))
end
end HT

namespace L2
open PySem PySem.Spec PyProof.Rows

/-! ### the parts of a slice -/
abbrev TO := St → Hp → (Option Int → Hp → Prop) → Prop
/-- a slice's part (left out, or an int) -/
def PO (X : Cx) (e : Option Expr) (t : TO) : Prop :=
  ∀ (pins : List (Addr × Obj)) (s : Shared) (σ : St) (H : Hp) (Q : Option Int → Hp → Prop), Inv X pins σ H s → t σ H Q →
    wpAny (model X.prog X.w) X.A (evalPart e X.env) (fun u s' => ∃ o H', Inv X pins σ H' s' ∧ IsPart u o ∧ Q o H') X.xe s
def tNoPart : TO := fun _ H Q => Q none H
def tPart (t : TE) : TO := fun σ H Q => t σ H fun x H1 => ∃ i, x = .int i ∧ Q (some i) H1

theorem intsAre_of {ns : List Int} : ∀ {us : List Value}, Vals (ns.map V.int) us → IntsAre us ns := by
  induction ns with
  | nil => intro us r; rw [List.map_nil] at r; cases r; exact .nil
  | cons n ns ih =>
    intro us r
    rw [List.map_cons] at r
    cases r with
    | cons r1 r2 =>
      obtain ⟨t, e⟩ := r1
      subst e
      exact .cons n t (ih r2)

section
variable {X : Cx} {e : Expr} {te : TE} {lo hi : Option Expr} {tl th : TO} {pos p2 : Pos}

theorem po_none : PO X none tNoPart := by
  intro pins s σ H Q I h
  rw [evalPart_none]
  exact wpAny_pure ⟨none, H, I, .none, h⟩
theorem po_some (h : PE X e te) : PO X (some e) (tPart te) := by
  intro pins s σ H Q I hw
  rw [evalPart_some]
  refine thn (h pins s σ H _ I hw) fun u s1 ⟨x, H1, I1, r1, q1⟩ => ?_
  obtain ⟨i, rfl, q⟩ := q1
  obtain ⟨t, rfl⟩ := r1
  exact ⟨some i, H1, I1, .int i t, q⟩

/-- what a slice of a value is, by values: the slice object stands at sl -/
def SlR (X : Cx) (r : V → Option Int → Option Int → Hp → VK → Prop) : Prop :=
  ∀ (pins : List (Addr × Obj)) (s : Shared) (σ : St) (H : Hp) (x : V) (v vl vu : Value) (lo hi : Option Int) (sl : Addr) (Q : VK), Inv X pins σ H s → RelV x v → s.heap.IsSliceOf sl vl vu .none → IsPart vl lo → IsPart vu hi → r x lo hi H Q →
    ∃ T id, typeLookup (.type T) "__getitem__" = pure (some (.builtin id)) ∧ s.TypeIs v T ∧ wpAny (model X.prog X.w) X.A (getItem v (.ref sl)) (EP X pins σ Q) X.xe s
theorem SlR.or {r r' : V → Option Int → Option Int → Hp → VK → Prop} (h : SlR X r) (h' : SlR X r') : SlR X (fun x lo hi H Q => r x lo hi H Q ∨ r' x lo hi H Q) := by
  intro pins s σ H x v vl vu lo hi sl Q I rx hs pl pu q
  rcases q with q | q
  · exact h pins s σ H x v vl vu lo hi sl Q I rx hs pl pu q
  · exact h' pins s σ H x v vl vu lo hi sl Q I rx hs pl pu q
def tSl (r : V → Option Int → Option Int → Hp → VK → Prop) (te : TE) (tl th : TO) : TE := fun σ H Q => te σ H fun x H1 => tl σ H1 fun l H2 => th σ H2 fun u H3 => r x l u H3 Q
/-- a[lo:hi], any a -/
theorem pe_slice {r : V → Option Int → Option Int → Hp → VK → Prop} (hr : SlR X r) (he : PE X e te) (hl : PO X lo tl) (hu : PO X hi th) : PE X (.Subscript e (.Slice lo hi none p2) pos) (tSl r te tl th) := by
  intro pins s σ H Q I h
  refine Subscript_ (thn (he pins s σ H _ I h) fun v s1 ⟨x, H1, I1, r1, q1⟩ => ?_)
  refine wpAny_Slice (thn (hl pins s1 σ H1 _ I1 q1) fun vl s2 ⟨l, H2, I2, pl, q2⟩ => thn (hu pins s2 σ H2 _ I2 q2) fun vu s3 ⟨u, H3, I3, pu, q3⟩ => ?_)
  rw [evalPart_none]
  refine wpAny_pure ?_
  have I4 : Inv X pins σ H3 { s3 with heap := s3.heap.push { cls := .type "slice", data := .fields #[vl, vu, .none] } } := I3.kept (t' := s3.toks) fun b ob q => Heap.get?_push_of_some _ q
  obtain ⟨T, id, hT, ht, hg⟩ := hr pins { s3 with heap := s3.heap.push { cls := .type "slice", data := .fields #[vl, vu, .none] } } σ H3 x v vl vu l u s3.heap.objs.size Q I4 r1 (Heap.IsSliceOf.new ..) pl pu q3
  show wpAny (model X.prog X.w) X.A (subscriptTail e (.Slice lo hi none p2) v (.ref s3.heap.objs.size)) (EP X pins σ Q) X.xe { s3 with heap := s3.heap.push { cls := .type "slice", data := .fields #[vl, vu, .none] } }
  exact tail_any (ops := [.ref s3.heap.objs.size, v]) ht hT hg (by with_unfolding_all rfl)

/-- the items of xs[lo:hi] -/
def cutV (xs : List V) (lo hi : Option Int) : List V := (xs.drop (HT.sIx xs.length 0 lo)).take (HT.sIx xs.length xs.length hi - HT.sIx xs.length 0 lo)
theorem cutV_length (xs : List V) (lo hi : Option Int) : (cutV xs lo hi).length ≤ xs.length := by
  unfold cutV
  rw [List.length_take, List.length_drop]
  omega
/-- t[lo:hi], not the whole of it (the whole would be t itself) -/
def rSlT (K : PySem.W.Frag) : V → Option Int → Option Int → Hp → VK → Prop := fun x lo hi H Q => ∃ a xs, x = .ref a ∧ SqT K H a xs ∧
  ¬ (HT.sIx xs.length 0 lo = 0 ∧ HT.sIx xs.length xs.length hi = xs.length) ∧ ∀ p, H p = none → Q (.ref p) (upd H p (.tup (cutV xs lo hi)))
theorem sl_tup : SlR X (rSlT X.K) := by
  intro pins s σ H x v vl vu lo hi sl Q I rx hs pl pu h
  obtain ⟨a, xs, rfl, hx, hw, q⟩ := h
  cases rx
  obtain ⟨its, r, ht, hz⟩ := I.tuple hx
  have hlen : its.toArray.size = xs.length := by rw [List.size_toArray]; exact r.length.symm
  refine ⟨"tuple", _, PyProof.Rows.slot_tuple_getitem.lookup, ht.typeIs, ?_⟩
  refine HT.getItem_tuple_cut ht hs pl pu (by rw [hlen]; exact hw) ?_ (by rw [hlen]; exact hz)
  rw [hlen]
  refine ⟨.ref s.heap.objs.size, _, I.laid (t' := s.toks) (o := .tup (cutV xs lo hi)) (fun b ob q => Heap.get?_push_of_some _ q) (Nat.le_refl _) ?_, rfl, q _ (I.hok.fresh (Nat.le_refl _))⟩
  exact ⟨Nat.le_trans (cutV_length xs lo hi) hz, _, (r.drop (HT.sIx xs.length 0 lo)).take (HT.sIx xs.length xs.length hi - HT.sIx xs.length 0 lo), IsTup.new _ _⟩

/-! ### t < u, t + u -/
def rLtT (K : PySem.W.Frag) : R2 := fun x y H Q => ∃ a b ns ms, x = .ref a ∧ y = .ref b ∧ SqT K H a (ns.map V.int) ∧ SqT K H b (ms.map V.int) ∧ Q (.bl (HT.lexLt ns ms)) H
theorem op_ltT (hu : X.A.units < cLine) : OpR X (compareOp .Lt) (rLtT X.K) := by
  intro pins s σ H x y v u Q I rx ry h
  obtain ⟨a, b, ns, ms, rfl, rfl, ha, hb, q⟩ := h
  cases rx
  cases ry
  obtain ⟨its, r1, p1, _⟩ := I.tuple ha
  obtain ⟨its2, r2, p2, _⟩ := I.tuple hb
  have i1 : IntsAre its.toArray.toList ns := intsAre_of r1
  have i2 : IntsAre its2.toArray.toList ms := intsAre_of r2
  exact HT.lt_tupInts p1 p2 i1 i2 hu ⟨.bl (HT.lexLt ns ms), H, I, rfl, q⟩
/-- t + u, t not empty: u empty gives t itself -/
def rCatT (K : PySem.W.Frag) : R2 := fun x y H Q => ∃ a b xs ys, x = .ref a ∧ y = .ref b ∧ SqT K H a xs ∧ SqT K H b ys ∧ xs ≠ [] ∧ xs.length + ys.length ≤ sizeLine ∧
  (ys = [] → Q (.ref a) H) ∧ (ys ≠ [] → ∀ p, H p = none → Q (.ref p) (upd H p (.tup (xs ++ ys))))
theorem Vals.nil_iff {xs : List V} {us : List Value} (r : Vals xs us) : us = [] ↔ xs = [] := by
  cases r with
  | nil => simp
  | cons _ _ => simp
theorem op_catT : OpR X (binaryOp .Add) (rCatT X.K) := by
  intro pins s σ H x y v u Q I rx ry h
  obtain ⟨a, b, xs, ys, rfl, rfl, ha, hb, hx, hz, q1, q2⟩ := h
  cases rx
  cases ry
  obtain ⟨its, r1, p1, _⟩ := I.tuple ha
  obtain ⟨its2, r2, p2, _⟩ := I.tuple hb
  refine HT.cat_tup p1 p2 (fun z => hx (r1.nil_iff.mp z)) (fun z => ⟨.ref a, H, I, rfl, q1 (r2.nil_iff.mp z)⟩) (fun z => ?_) (by rw [← r1.length, ← r2.length]; exact hz)
  refine ⟨.ref s.heap.objs.size, _, I.laid (t' := s.toks) (o := .tup (xs ++ ys)) (fun b ob q => Heap.get?_push_of_some _ q) (Nat.le_refl _) ?_, rfl, q2 (fun w => z (r2.nil_iff.mpr w)) _ (I.hok.fresh (Nat.le_refl _))⟩
  exact ⟨by rw [List.length_append]; exact hz, _, r1.append r2, IsTup.new _ _⟩
/-- tuple(t) -/
theorem call_tupleT : CallR X (.type "tuple") (fun xs H Q => ∃ a ys, xs = [.ref a] ∧ SqT X.K H a ys ∧ Q (.ref a) H) := by
  intro pins s σ H xs us Q I r h
  obtain ⟨a, ys, rfl, ha, q⟩ := h
  obtain ⟨u, rfl, ru⟩ := vals1 r
  cases ru
  obtain ⟨its, _, p1, _⟩ := I.tuple ha
  exact call_tuple_same (items := its.toArray) p1 ⟨.ref a, H, I, rfl, q⟩
end
end L2

namespace L2
open PySem PySem.Spec PyProof.Rows

/-! ### places -/
/-- the place that an index of any sign means -/
def ixN (n : Nat) (i : Int) : Option Nat := if 0 ≤ i then (if i < n then some i.toNat else none) else if -(n : Int) ≤ i then some (i + n).toNat else none
def atI {α : Type} (xs : List α) (i : Int) : Option α := (ixN xs.length i).bind fun j => xs[j]?
theorem ixN_seq {n : Nat} {i : Int} {j : Nat} (h : ixN n i = some j) : seqIndex? i n = some j ∧ j < n ∧ -(n : Int) ≤ i ∧ i < n := by
  unfold ixN at h
  by_cases h0 : 0 ≤ i
  · rw [if_pos h0] at h
    by_cases h1 : i < n
    · rw [if_pos h1] at h
      have e : i.toNat = j := Option.some.inj h
      exact ⟨by rw [seqIndex_of h0 h1, e], by omega, by omega, h1⟩
    · rw [if_neg h1] at h; cases h
  · rw [if_neg h0] at h
    by_cases h1 : -(n : Int) ≤ i
    · rw [if_pos h1] at h
      have e : (i + n).toNat = j := Option.some.inj h
      exact ⟨by rw [seqIndex_neg (by omega) h1, e], by omega, h1, by omega⟩
    · rw [if_neg h1] at h; cases h
theorem atI_get {α : Type} {xs : List α} {i : Int} {v : α} (h : atI xs i = some v) : ∃ j, seqIndex? i xs.length = some j ∧ xs[j]? = some v ∧ j < xs.length ∧ -(xs.length : Int) ≤ i ∧ i < xs.length := by
  unfold atI at h
  cases e : ixN xs.length i with
  | none => rw [e] at h; cases h
  | some j =>
    rw [e] at h
    obtain ⟨h1, h2, h3, h4⟩ := ixN_seq e
    exact ⟨j, h1, h, h2, h3, h4⟩
theorem atI_nat {α : Type} {xs : List α} {j : Nat} {v : α} (h : xs[j]? = some v) : atI xs (j : Int) = some v := by
  have hj : j < xs.length := (List.getElem?_eq_some_iff.mp h).1
  have e : ixN xs.length (j : Int) = some j := by
    unfold ixN
    rw [if_pos (by omega), if_pos (by omega)]; simp
  unfold atI; rw [e]; exact h
theorem atI_last {α : Type} (xs : List α) (v : α) : atI (xs ++ [v]) (-1) = some v := by
  have hl : (xs ++ [v]).length = xs.length + 1 := by simp
  have e : ixN (xs ++ [v]).length (-1) = some xs.length := by
    unfold ixN
    rw [hl, if_neg (by decide), if_pos (by omega)]
    congr 1
    omega
  unfold atI
  rw [e]
  show (xs ++ [v])[xs.length]? = some v
  simp

/-! ### what may be subscripted -/
/-- what stands as an index of a plain subscript -/
def PlainIx (b : Expr) : Prop := ∀ o i, subscripted b false o i = operate [o, i] (getItem o i)
/-- a subscript by values -/
def IxR (X : Cx) (r : R2) : Prop :=
  ∀ (value slice : Expr) (pins : List (Addr × Obj)) (s : Shared) (σ : St) (H : Hp) (x y : V) (v u : Value) (Q : VK), Inv X pins σ H s → RelV x v → RelV y u → r x y H Q →
    subscripted slice false v u = operate [v, u] (getItem v u) → wpAny (model X.prog X.w) X.A (subscriptTail value slice v u) (EP X pins σ Q) X.xe s
/-- a call of a builtin's method by values: the receiver, the arguments -/
def MtR (X : Cx) (id : String) (r : V → List V → Hp → VK → Prop) : Prop :=
  ∀ (pins : List (Addr × Obj)) (s : Shared) (σ : St) (H : Hp) (x : V) (xs : List V) (v : Value) (us : List Value) (Q : VK), Inv X pins σ H s → RelV x v → Vals xs us → r x xs H Q →
    wpAny (model X.prog X.w) X.A (call (.builtin id) (v :: us)) (EP X pins σ Q) X.xe s
section
variable {X : Cx} {a b : Expr} {ta tb : TE} {pos : Pos}
theorem IxR.or {r r' : R2} (h : IxR X r) (h' : IxR X r') : IxR X (fun x y H Q => r x y H Q ∨ r' x y H Q) := by
  intro value slice pins s σ H x y v u Q I rx ry q hs
  rcases q with q | q
  · exact h value slice pins s σ H x y v u Q I rx ry q hs
  · exact h' value slice pins s σ H x y v u Q I rx ry q hs
theorem MtR.or {id : String} {r r' : V → List V → Hp → VK → Prop} (h : MtR X id r) (h' : MtR X id r') : MtR X id (fun x xs H Q => r x xs H Q ∨ r' x xs H Q) := by
  intro pins s σ H x xs v us Q I rx rs q
  rcases q with q | q
  · exact h pins s σ H x xs v us Q I rx rs q
  · exact h' pins s σ H x xs v us Q I rx rs q
/-- a[b] -/
theorem pe_ix {r : R2} (hr : IxR X r) (ha : PE X a ta) (hb : PE X b tb) (hs : PlainIx b) : PE X (.Subscript a b pos) (tOp r ta tb) := by
  intro pins s σ H Q I h
  exact Subscript_ (binT ha hb I h fun v u s2 x y H2 I2 rx ry q => hr a b pins s2 σ H2 x y v u Q I2 rx ry q (hs _ _))

def rIxL (K : PySem.W.Frag) : R2 := fun x y H Q => ∃ p xs i v, x = .ref p ∧ y = .int i ∧ SqL K H p xs ∧ atI xs i = some v ∧ Q v H
def rIxT (K : PySem.W.Frag) : R2 := fun x y H Q => ∃ p xs i v, x = .ref p ∧ y = .int i ∧ SqT K H p xs ∧ atI xs i = some v ∧ Q v H
def rIxS : R2 := fun x y H Q => ∃ z i c, x = .str z ∧ y = .int i ∧ z.length ≤ sizeLine ∧ atI z.cps.toList i = some c ∧ Q (.str ⟨#[c]⟩) H
theorem ix_list : IxR X (rIxL X.K) := by
  intro value slice pins s σ H x y v u Q I rx ry h hs
  obtain ⟨p, xs, i, z, rfl, rfl, hq, he, q⟩ := h
  cases rx
  obtain ⟨t, rfl⟩ := ry
  obtain ⟨its, r, pl, hz⟩ := I.list hq
  obtain ⟨j, h1, h2, h3, h4, h5⟩ := atI_get he
  obtain ⟨w, ew, rw'⟩ := r.get h2
  have hl := r.length
  have hn := line63
  have fin : EP X pins σ Q w s := ⟨z, H, I, rw', q⟩
  by_cases h0 : 0 ≤ i
  · have hj : i.toNat = j := by
      rw [seqIndex_of h0 h5] at h1
      exact Option.some.inj h1
    exact item_listR pl.isList h0 (by omega) (by rw [hj]; simpa using ew) fin hs
  · have hj : (i + (its.toArray.size : Int)).toNat = j := by
      rw [seqIndex_neg (by omega) h4] at h1
      rw [List.size_toArray, ← hl]
      exact Option.some.inj h1
    exact subscriptTail_builtinR (x := w) pl.isList.typeIs slot_list_getitem.lookup
      (wpAny_getItem_list_neg (Q := fun r s' => r = w ∧ EP X pins σ Q r s') pl.isList (by omega) (by rw [List.size_toArray] <;> omega) (by omega) (by rw [hj]; simpa using ew) ⟨rfl, fin⟩) hs
theorem ix_tup : IxR X (rIxT X.K) := by
  intro value slice pins s σ H x y v u Q I rx ry h hs
  obtain ⟨p, xs, i, z, rfl, rfl, hq, he, q⟩ := h
  cases rx
  obtain ⟨t, rfl⟩ := ry
  obtain ⟨its, r, pl, hz⟩ := I.tuple hq
  obtain ⟨j, h1, h2, h3, h4, h5⟩ := atI_get he
  obtain ⟨w, ew, rw'⟩ := r.get h2
  have hl := r.length
  have hn := line63
  have fin : EP X pins σ Q w s := ⟨z, H, I, rw', q⟩
  exact subscriptTail_builtinR (x := w) pl.typeIs slot_tuple_getitem.lookup
    (getItem_tuple (j := j) (Q := fun r s' => r = w ∧ EP X pins σ Q r s') pl (by omega) (by omega) (by rw [List.size_toArray, ← hl]; exact h1) (by simpa using ew) ⟨rfl, fin⟩) hs
theorem ix_str : IxR X rIxS := by
  intro value slice pins s σ H x y v u Q I rx ry h hs
  obtain ⟨z, i, c, rfl, rfl, hz, he, q⟩ := h
  obtain ⟨t, rfl⟩ := rx
  obtain ⟨t', rfl⟩ := ry
  obtain ⟨j, h1, h2, h3, h4, h5⟩ := atI_get he
  have hl : z.cps.toList.length = z.length := by simp [Str.length]
  rw [hl] at h1 h4 h5
  have hn := line63
  exact tail_any (typeIs_str s z t) slot_str_getitem.lookup (getItem_str (c := c) (by
    have e1 : decide (i < -(2 ^ 63 : Int)) = false := decide_eq_false (by omega)
    have e2 : decide (i ≥ 2 ^ 63) = false := decide_eq_false (by omega)
    rw [e1, e2, Bool.or_false]) (by rw [h1]; simpa using h2) ⟨.str ⟨#[c]⟩, H, I.tok _, ⟨_, rfl⟩, q⟩) hs
/-- list, tuple or str -/
def rIx (K : PySem.W.Frag) : R2 := fun x y H Q => rIxL K x y H Q ∨ rIxT K x y H Q ∨ rIxS x y H Q
theorem ix_seq : IxR X (rIx X.K) := ix_list.or (ix_tup.or ix_str)

/-! ### xs[i] = v, any sign -/
/-- the list's object behind a store -/
theorem mapSeq_set (its : List Value) (n j : Nat) (u : Value) : Obj.mapSeq (·.setIfInBounds j u) { cls := .type "list", data := .seq its.toArray n } = { cls := .type "list", data := .seq (its.set j u).toArray n } := by
  simp [Obj.mapSeq]
theorem Inv.lst {pins : List (Addr × Obj)} {σ : St} {H : Hp} {s : Shared} {p : Addr} {xs : List V} (I : Inv X pins σ H s) (h : H p = some (.lst xs)) :
    ∃ (its : List Value) (n : Nat), Vals xs its ∧ s.heap.get? p = some { cls := .type "list", data := .seq its.toArray n } ∧ xs.length ≤ sizeLine := by
  obtain ⟨z, its, n, r, e⟩ := I.hok p _ h
  exact ⟨its, n, r, e, z⟩
/-- the list at p is written by an update of its object -/
theorem Inv.lstUpd {pins : List (Addr × Obj)} {σ : St} {H : Hp} {s : Shared} {p : Addr} {xs ys : List V} {its its' : List Value} {n n' : Nat} {f : Obj → Obj} (I : Inv X pins σ H s) (h : H p = some (.lst xs))
    (ho : s.heap.get? p = some { cls := .type "list", data := .seq its.toArray n }) (hf : f { cls := .type "list", data := .seq its.toArray n } = { cls := .type "list", data := .seq its'.toArray n' }) (r : Vals ys its') (hz : ys.length ≤ sizeLine) (t : Nat) :
    Inv X pins σ (upd H p (.lst ys)) { s with heap := s.heap.update p f, toks := t } := by
  have e : (s.heap.update p f).get? p = some { cls := .type "list", data := .seq its'.toArray n' } := by
    rw [Heap.get?_update_self f ho (by rw [hf] <;> rfl), hf]
  refine I.write (x := p) (e := p) (by rw [h]; trivial) (.inl rfl) (fun b u hb q => (Heap.get?_update_other _ _ (Ne.symm hb)).trans q) ⟨_, e⟩ ?_
  exact ⟨hz, its', n', r, e⟩
def rSetL : V → V → V → Hp → (Hp → Prop) → Prop := fun o i v H Q => ∃ p xs k j, o = .ref p ∧ i = .int k ∧ H p = some (.lst xs) ∧ ixN xs.length k = some j ∧ Q (upd H p (.lst (xs.set j v)))
theorem set_list : PSet X rSetL := by
  intro pins s σ H o i v ov iv u Q I ro ri rv h
  obtain ⟨p, xs, k, j, rfl, rfl, hp, hj, q⟩ := h
  cases ro
  obtain ⟨t, rfl⟩ := ri
  obtain ⟨its, n, r, ho, hz⟩ := I.lst hp
  obtain ⟨h1, h2, h3, h4⟩ := ixN_seq hj
  have hl := r.length
  have hn := line63
  have I' : Inv X pins σ (upd H p (.lst (xs.set j v))) { s with heap := s.heap.update p (Obj.mapSeq (·.setIfInBounds j u)) } :=
    I.lstUpd hp ho (mapSeq_set its n j u) (r.set rv j) (by rw [List.length_set]; exact hz) s.toks
  by_cases h0 : 0 ≤ k
  · have hk : k.toNat = j := by
      rw [seqIndex_of h0 h4] at h1
      exact Option.some.inj h1
    exact PySem.W.ki_setAt ho h0 (by omega) (by rw [List.size_toArray, ← hl]; exact h4) (by rw [hk]; exact ⟨_, I', q⟩)
  · have hk : (k + (its.toArray.size : Int)).toNat = j := by
      rw [seqIndex_neg (by omega) h3] at h1
      rw [List.size_toArray, ← hl]
      exact Option.some.inj h1
    exact PySem.W.ki_setBack ho (by omega) (by rw [List.size_toArray, ← hl]; exact h3) (by omega) (by rw [hk]; exact ⟨_, I', q⟩)

/-! ### slices -/
theorem slice_bounds (lo hi : Option Int) (n : Nat) : (sliceBounds lo hi none n).1 = ((HT.sIx n 0 lo : Nat) : Int) ∧ (sliceBounds lo hi none n).2.1 = ((HT.sIx n n hi : Nat) : Int) ∧ (sliceBounds lo hi none n).2.2 = 1 := by
  refine ⟨?_, ?_, rfl⟩
  · cases lo with
    | none => simp [sliceBounds, HT.sIx]
    | some i =>
      simp only [sliceBounds, HT.sIx, Option.getD_none, show (1 : Int) > 0 by decide, if_true]
      by_cases h : i < 0
      · simp only [h, if_true] <;> omega
      · simp only [h, if_false] <;> omega
  · cases hi with
    | none => simp [sliceBounds, HT.sIx]
    | some i =>
      simp only [sliceBounds, HT.sIx, Option.getD_none, show (1 : Int) > 0 by decide, if_true]
      by_cases h : i < 0
      · simp only [h, if_true] <;> omega
      · simp only [h, if_false] <;> omega
theorem slicePick_cut (its : List Value) (lo hi : Option Int) : slicePick its.toArray lo hi none = ((its.drop (HT.sIx its.length 0 lo)).take (HT.sIx its.length its.length hi - HT.sIx its.length 0 lo)).toArray := by
  obtain ⟨h1, h2, h3⟩ := slice_bounds lo hi its.toArray.size
  unfold slicePick
  rw [h1, h2, h3]
  simp only [sliceRange_one, pick_run, List.size_toArray] <;> rfl
/-- xs[lo:hi] of a list: a new list -/
def rSlL (K : PySem.W.Frag) : V → Option Int → Option Int → Hp → VK → Prop := fun x lo hi H Q => ∃ a xs, x = .ref a ∧ SqL K H a xs ∧ ∀ p, H p = none → Q (.ref p) (upd H p (.lst (cutV xs lo hi)))
theorem sl_list : SlR X (rSlL X.K) := by
  intro pins s σ H x v vl vu lo hi sl Q I rx hs pl pu h
  obtain ⟨a, xs, rfl, hx, q⟩ := h
  cases rx
  obtain ⟨its, r, ht, hz⟩ := I.list hx
  have hlen := r.length
  refine ⟨"list", _, slot_list_getitem.lookup, ht.isList.typeIs, ?_⟩
  refine wpAny_getItem_list_slice ht.isList hs pl pu .none (by simp) ?_ (by rw [List.size_toArray] <;> omega)
  rw [slicePick_cut, ← hlen]
  refine ⟨.ref s.heap.objs.size, _, I.laid (t' := s.toks) (o := .lst (cutV xs lo hi)) (fun b ob q => Heap.get?_push_of_some _ q) (Nat.le_refl _) ?_, rfl, q _ (I.hok.fresh (Nat.le_refl _))⟩
  exact ⟨Nat.le_trans (cutV_length xs lo hi) hz, _, 0, (r.drop (HT.sIx xs.length 0 lo)).take (HT.sIx xs.length xs.length hi - HT.sIx xs.length 0 lo), Heap.get?_push_size _ rfl⟩

/-! ### in, not in: flat items -/
def flatV : V → Bool
  | .non => true
  | .bl _ => true
  | .int _ => true
  | .str _ => true
  | _ => false
/-- == of flat values -/
def eqV : V → V → Bool
  | .non, .non => true
  | .bl a, .bl b => a == b
  | .bl a, .int b => (if a then 1 else 0) == b
  | .int a, .bl b => a == (if b then 1 else 0)
  | .int a, .int b => a == b
  | .str a, .str b => a == b
  | _, _ => false
theorem eqAt_V {A : Around} {s : Shared} {y x : V} {u v : Value} (ry : RelV y u) (rx : RelV x v) (fy : flatV y = true) (fx : flatV x = true) : SeqAt.EqAt A s u v (eqV y x) := by
  cases y with
  | non =>
    cases ry
    cases x with
    | non => cases rx; exact SeqAt.EqAt.same _
    | bl b => cases rx; exact SeqAt.EqAt.none_bool b
    | int b => obtain ⟨t, rfl⟩ := rx; exact SeqAt.EqAt.none_int b t
    | str b => obtain ⟨t, rfl⟩ := rx; exact SeqAt.EqAt.none_str b t
    | _ => exact absurd (show false = true from fx) Bool.false_ne_true
  | bl a =>
    cases ry
    cases x with
    | non => cases rx; exact SeqAt.EqAt.bool_none a
    | bl b => cases rx; exact SeqAt.EqAt.bool_bool a b
    | int b => obtain ⟨t, rfl⟩ := rx; exact SeqAt.EqAt.bool_int a b t
    | str b => obtain ⟨t, rfl⟩ := rx; exact SeqAt.EqAt.bool_str a b t
    | _ => exact absurd (show false = true from fx) Bool.false_ne_true
  | int a =>
    obtain ⟨t', rfl⟩ := ry
    cases x with
    | non => cases rx; exact SeqAt.EqAt.int_none a t'
    | bl b => cases rx; exact SeqAt.EqAt.int_bool a t' b
    | int b => obtain ⟨t, rfl⟩ := rx; exact SeqAt.EqAt.int_int a t' b t
    | str b => obtain ⟨t, rfl⟩ := rx; exact SeqAt.EqAt.int_str a t' b t
    | _ => exact absurd (show false = true from fx) Bool.false_ne_true
  | str a =>
    obtain ⟨t', rfl⟩ := ry
    cases x with
    | non => cases rx; exact SeqAt.EqAt.str_none a t'
    | bl b => cases rx; exact SeqAt.EqAt.str_bool a t' b
    | int b => obtain ⟨t, rfl⟩ := rx; exact SeqAt.EqAt.str_int a t' b t
    | str b => obtain ⟨t, rfl⟩ := rx; exact SeqAt.EqAt.str_str a t' b t
    | _ => exact absurd (show false = true from fx) Bool.false_ne_true
  | _ => exact absurd (show false = true from fy) Bool.false_ne_true
/-- the items' answers, read off the values (a value's own answer does not lean on its token) -/
def eqU (x : V) (u : Value) : Bool := match u with
  | .none => eqV .non x
  | .bool b => eqV (.bl b) x
  | .int i _ => eqV (.int i) x
  | .str z _ => eqV (.str z) x
  | _ => false
theorem eqU_of {x y : V} {u : Value} (r : RelV y u) (f : flatV y = true) : eqU x u = eqV y x := by
  cases y with
  | non => cases r; rfl
  | bl b => cases r; rfl
  | int i => obtain ⟨t, rfl⟩ := r; rfl
  | str z => obtain ⟨t, rfl⟩ := r; rfl
  | _ => exact absurd (show false = true from f) Bool.false_ne_true
theorem any_eqU {x : V} : ∀ {xs : List V} {us : List Value}, Vals xs us → xs.all flatV = true → us.any (eqU x) = xs.any fun y => eqV y x
  | _, _, .nil, _ => rfl
  | y :: xs, u :: us, .cons r t, f => by
    rw [List.all_cons, Bool.and_eq_true] at f
    rw [List.any_cons, List.any_cons, eqU_of r f.1, any_eqU t f.2]
theorem mem_eqAt {A : Around} {s : Shared} {x : V} {v : Value} (rx : RelV x v) (fx : flatV x = true) : ∀ {xs : List V} {us : List Value}, Vals xs us → xs.all flatV = true → ∀ u ∈ us, SeqAt.EqAt A s u v (eqU x u)
  | _, _, .nil, _ => fun u hu => by cases hu
  | y :: xs, u :: us, .cons r t, f => fun u' hu => by
    rw [List.all_cons, Bool.and_eq_true] at f
    rcases List.mem_cons.mp hu with rfl | hu
    · rw [eqU_of r f.1]; exact eqAt_V r rx f.1 fx
    · exact mem_eqAt rx fx t f.2 u' hu
def inV (x : V) (xs : List V) : Bool := xs.any fun y => eqV y x
/-- x in a list or tuple of flat items -/
def rIn (K : PySem.W.Frag) (neg : Bool) : R2 := fun x y H Q => ∃ p xs, y = .ref p ∧ (SqL K H p xs ∨ SqT K H p xs) ∧ flatV x = true ∧ xs.all flatV = true ∧ Q (.bl (if neg then !inV x xs else inV x xs)) H
theorem op_in_seq : OpR X (compareOp .In) (rIn X.K false) := by
  intro pins s σ H x y v u Q I rx ry h
  obtain ⟨p, xs, rfl, hq, fx, fs, q⟩ := h
  cases ry
  rcases hq with hq | hq
  · obtain ⟨its, r, pl, hz⟩ := I.list hq
    refine SeqAt.in_listAt (eqU x) pl.isList (fun w hw => mem_eqAt rx fx r fs w (by simpa using hw)) ⟨.bl _, H, I, rfl, ?_⟩
    rw [show its.toArray.any (eqU x) = its.any (eqU x) by simp, any_eqU r fs]
    exact q
  · obtain ⟨its, r, pl, hz⟩ := I.tuple hq
    refine SeqAt.in_tupleAt (eqU x) pl (fun w hw => mem_eqAt rx fx r fs w (by simpa using hw)) ⟨.bl _, H, I, rfl, ?_⟩
    rw [show its.toArray.any (eqU x) = its.any (eqU x) by simp, any_eqU r fs]
    exact q
theorem op_notIn_seq : OpR X (compareOp .NotIn) (rIn X.K true) := by
  intro pins s σ H x y v u Q I rx ry h
  obtain ⟨p, xs, rfl, hq, fx, fs, q⟩ := h
  cases ry
  rcases hq with hq | hq
  · obtain ⟨its, r, pl, hz⟩ := I.list hq
    refine SeqAt.notIn_listAt (eqU x) pl.isList (fun w hw => mem_eqAt rx fx r fs w (by simpa using hw)) ⟨.bl _, H, I, rfl, ?_⟩
    rw [show its.toArray.any (eqU x) = its.any (eqU x) by simp, any_eqU r fs]
    exact q
  · obtain ⟨its, r, pl, hz⟩ := I.tuple hq
    refine SeqAt.notIn_tupleAt (eqU x) pl (fun w hw => mem_eqAt rx fx r fs w (by simpa using hw)) ⟨.bl _, H, I, rfl, ?_⟩
    rw [show its.toArray.any (eqU x) = its.any (eqU x) by simp, any_eqU r fs]
    exact q
theorem op_notIn_str : OpR X (compareOp .NotIn) (fun x y H Q => ∃ i j, x = .str i ∧ y = .str j ∧ Q (.bl (!(!(Builtin.Str.occurrences j i 0 j.length 1).isEmpty))) H) := by
  intro pins s σ H x y v u Q I rx ry h
  obtain ⟨i, j, rfl, rfl, q⟩ := h
  obtain ⟨t, rfl⟩ := rx
  obtain ⟨t', rfl⟩ := ry
  exact notIn_str ⟨.bl _, H, I, rfl, q⟩

/-! ### len, list(x), tuple(x) of any list or tuple that is read -/
theorem call_len_seq : CallR X (.builtin "len") (fun xs H Q => ∃ p ys, xs = [.ref p] ∧ (SqL X.K H p ys ∨ SqT X.K H p ys) ∧ Q (.int ys.length) H) := by
  intro pins s σ H xs us Q I r h
  obtain ⟨p, ys, rfl, hq, q⟩ := h
  obtain ⟨u, rfl, rx⟩ := vals1 r
  cases rx
  have hn := line63
  rcases hq with hq | hq
  · obtain ⟨its, r', pl, hz⟩ := I.list hq
    have hlen := r'.length
    exact Calls.call_len_list pl.isList (by simp only [List.size_toArray] <;> omega) ⟨.int ys.length, H, I.tok _, ⟨s.toks + 1, by rw [List.size_toArray, hlen]⟩, q⟩
  · obtain ⟨its, r', pl, hz⟩ := I.tuple hq
    have hlen := r'.length
    exact len_tuple pl (by simp only [List.size_toArray] <;> omega) ⟨.int ys.length, H, I.tok _, ⟨s.toks + 1, by rw [List.size_toArray, hlen]⟩, q⟩
theorem call_len_str : CallR X (.builtin "len") (fun xs H Q => ∃ z, xs = [.str z] ∧ z.length ≤ sizeLine ∧ Q (.int z.length) H) := by
  intro pins s σ H xs us Q I r h
  obtain ⟨z, rfl, hz, q⟩ := h
  obtain ⟨u, rfl, t, rfl⟩ := vals1 r
  have hn := line63
  exact len_str (by omega) ⟨.int z.length, H, I.tok _, ⟨_, rfl⟩, q⟩
theorem CallR.or {f : Value} {r r' : List V → Hp → VK → Prop} (h : CallR X f r) (h' : CallR X f r') : CallR X f (fun xs H Q => r xs H Q ∨ r' xs H Q) := by
  intro pins s σ H xs us Q I rs q
  rcases q with q | q
  · exact h pins s σ H xs us Q I rs q
  · exact h' pins s σ H xs us Q I rs q
theorem call_list_of : CallR X (.type "list") (fun xs H Q => ∃ p ys, xs = [.ref p] ∧ (SqL X.K H p ys ∨ SqT X.K H p ys) ∧ ∀ l, H l = none → Q (.ref l) (upd H l (.lst ys))) := by
  intro pins s σ H xs us Q I r h
  obtain ⟨p, ys, rfl, hq, q⟩ := h
  obtain ⟨u, rfl, rx⟩ := vals1 r
  cases rx
  have fin : ∀ (its : List Value), Vals ys its → ys.length ≤ sizeLine → ∀ (h' : Heap) (c' : Nat), (∀ b o', s.heap.get? b = some o' → h'.get? b = some o') →
      h'.get? s.heap.objs.size = some { cls := .type "list", dict := none, data := .seq its.toArray c', slots := #[] } → EP X pins σ Q (.ref s.heap.objs.size) { s with heap := h' } := fun its r' hz h' c' kp e =>
    ⟨.ref s.heap.objs.size, _, I.laid (t' := s.toks) kp (Nat.le_refl _) (show ObjOk X.prog X.w _ h' _ (.lst ys) from ⟨hz, its, c', r', e⟩), rfl, q _ (I.hok.fresh (Nat.le_refl _))⟩
  rcases hq with hq | hq
  · obtain ⟨its, r', pl, hz⟩ := I.list hq
    have hlen := r'.length
    obtain ⟨o, ho, hc, n, hd⟩ := pl.isList
    exact call_list_seq p (.inl rfl) ho hc hd (fun h' c' kp e => fin its r' hz h' c' kp e) (by simp only [List.size_toArray] <;> omega)
  · obtain ⟨its, r', pl, hz⟩ := I.tuple hq
    have hlen := r'.length
    obtain ⟨o, ho, hc, n, hd⟩ := pl
    exact call_list_seq p (.inr rfl) ho hc hd (fun h' c' kp e => fin its r' hz h' c' kp e) (by simp only [List.size_toArray] <;> omega)
theorem call_tuple_of : CallR X (.type "tuple") (fun xs H Q => ∃ p ys, xs = [.ref p] ∧ ((SqL X.K H p ys ∧ ∀ l, H l = none → Q (.ref l) (upd H l (.tup ys))) ∨ (SqT X.K H p ys ∧ Q (.ref p) H))) := by
  intro pins s σ H xs us Q I r h
  obtain ⟨p, ys, rfl, h⟩ := h
  obtain ⟨u, rfl, rx⟩ := vals1 r
  cases rx
  rcases h with ⟨hq, q⟩ | ⟨hq, q⟩
  · obtain ⟨its, r', pl, hz⟩ := I.list hq
    have hlen := r'.length
    refine call_tuple_list pl.isList (fun h' kp => ?_) (by simp only [List.size_toArray] <;> omega)
    have I1 : Inv X pins σ H { s with heap := h' } := I.kept (t' := s.toks) kp
    have I2 : Inv X pins σ (upd H h'.objs.size (.tup ys)) { s with heap := h'.push { cls := .type "tuple", data := .seq its.toArray } } :=
      I1.laid (t' := s.toks) (fun b o e => Heap.get?_push_of_some _ e) (Nat.le_refl _) (show ObjOk X.prog X.w _ _ _ (.tup ys) from ⟨hz, its, r', IsTup.new _ _⟩)
    exact ⟨.ref h'.objs.size, _, I2, rfl, q _ (I1.hok.fresh (Nat.le_refl _))⟩
  · obtain ⟨its, r', pl, hz⟩ := I.tuple hq
    exact call_tuple_same pl ⟨.ref p, H, I, rfl, q⟩

/-! ### the call of a builtin's method: o.m(..) -/
/-- the value is of that builtin type -/
def tyV (K : PySem.W.Frag) (T : String) (x : V) (H : Hp) : Prop := match x with
  | .str _ => T = "str"
  | .int _ => T = "int"
  | .ref p => (T = "list" ∧ ∃ xs, SqL K H p xs) ∨ (T = "tuple" ∧ ∃ o, K.lookup p = some o ∧ o.cls = .type "tuple" ∧ o.dict = none) ∨
      (T = "dict" ∧ ((∃ kvs, H p = some (.dK kvs)) ∨ ∃ kvs, H p = some (.dT kvs))) ∨ (T = "set" ∧ ∃ S n, H p = some (.set S n))
  | _ => False
theorem tyV_is {pins : List (Addr × Obj)} {σ : St} {H : Hp} {s : Shared} {T : String} {x : V} {v : Value} (I : Inv X pins σ H s) (r : RelV x v) (ty : tyV X.K T x H) :
    s.TypeIs v T ∧ ∀ a, v = .ref a → ∃ ob, s.heap.get? a = some ob ∧ ob.dict = none := by
  cases x with
  | str z =>
    obtain ⟨t, rfl⟩ := r
    cases (show T = "str" from ty)
    exact ⟨typeIs_str s z t, fun _ e => nomatch e⟩
  | int i =>
    obtain ⟨t, rfl⟩ := r
    cases (show T = "int" from ty)
    exact ⟨typeIs_int s i t, fun _ e => nomatch e⟩
  | ref p =>
    cases r
    rcases ty with ⟨rfl, xs, hq⟩ | ⟨rfl, o, hk, hc, hd⟩ | ⟨rfl, hk⟩ | ⟨rfl, S, n, hk⟩
    · obtain ⟨its, _, pl, _⟩ := I.list hq
      refine ⟨pl.isList.typeIs, fun a e => ?_⟩
      cases e
      obtain ⟨o, n, e, c, hd, _⟩ := pl
      exact ⟨o, e, hd⟩
    · refine ⟨⟨o, I.kIn p o hk, hc⟩, fun a e => ?_⟩
      cases e
      exact ⟨o, I.kIn _ o hk, hd⟩
    · have z : ∃ o, s.heap.get? p = some o ∧ o.ExactDict := by
        rcases hk with ⟨kvs, hk⟩ | ⟨kvs, hk⟩
        · obtain ⟨_, _, _, _, o, _, _, e, ex, _⟩ := I.hok p _ hk
          exact ⟨o, e, ex⟩
        · obtain ⟨_, _, _, _, o, _, _, e, ex, _⟩ := I.hok p _ hk
          exact ⟨o, e, ex⟩
      obtain ⟨o, e, ex⟩ := z
      refine ⟨⟨o, e, ex.1⟩, fun a e2 => ?_⟩
      cases e2
      exact ⟨o, e, ex.2.1⟩
    · obtain ⟨o, _, _, _, e, ex, _⟩ := I.hok p _ hk
      refine ⟨⟨o, e, ex.1⟩, fun a e2 => ?_⟩
      cases e2
      exact ⟨o, e, ex.2.1⟩
  | _ => exact False.elim ty
def tBM0 (K : PySem.W.Frag) (T : String) (r : V → List V → Hp → VK → Prop) (to : TE) : TE := fun σ H Q => to σ H fun x H1 => tyV K T x H1 ∧ r x [] H1 Q
def tBM (K : PySem.W.Frag) (T : String) (r : V → List V → Hp → VK → Prop) (to : TE) (t : TA) : TE := fun σ H Q => to σ H fun x H1 => tyV K T x H1 ∧ t σ H1 fun xs H2 => r x xs H2 Q
variable {o e : Expr} {es : List Expr} {to : TE} {t : TA} {name : Str} {apos cpos : Pos} {T id : String} {r : V → List V → Hp → VK → Prop}
theorem pe_bm0 (pa : PlainAttrs T) (slot : Slot T name id) (hty : typeOf (.builtin id) = pure (.type "method_descriptor")) (hm : MtR X id r) (ho : PE X o to)
    (hbase : attributeBase o name X.env (eval o X.env) = eval o X.env := by rfl) (hline : (apos.endLine == cpos.line) = true := by rfl) : PE X (.Call (.Attribute o name apos) [] [] cpos) (tBM0 X.K T r to) := by
  intro pins s σ H Q I h
  refine wpAny_Call_method0_late hbase hline (thn (ho pins s σ H _ I h) fun v s1 ⟨x, H1, I1, r1, ty, q1⟩ => ?_)
  obtain ⟨h1, h2⟩ := tyV_is I1 r1 ty
  exact ⟨T, id, pa, slot, hty, h1, h2, Calls.callWith_builtin rfl (PySem.evalArgs_none (hm pins s1 σ H1 x [] v [] Q I1 r1 .nil q1))⟩
theorem pe_bm (pa : PlainAttrs T) (slot : Slot T name id) (hty : typeOf (.builtin id) = pure (.type "method_descriptor")) (hm : MtR X id r) (ho : PE X o to) (ha : PA X (e :: es) t)
    (hbase : attributeBase o name X.env (eval o X.env) = eval o X.env := by rfl)
    (hfew : ((backTo cpos (starEach (e :: es) X.env)).all (fun x => !x.1) && (backToKw cpos (keywordEach [] X.env)).all (fun x => x.1.isSome)
      && decide ((e :: es).length + ([] : List Keyword).length + (if ([] : List Keyword).isEmpty then 0 else 1) < 30)) = true := by rfl)
    (hline : (apos.endLine == cpos.line) = true := by rfl) (hs : starEach (e :: es) X.env = (false, eval e X.env) :: starEach es X.env := by rfl) (hplain : (backTo cpos (starEach es X.env)).any (·.1) = false := by rfl) :
    PE X (.Call (.Attribute o name apos) (e :: es) [] cpos) (tBM X.K T r to t) := by
  intro pins s σ H Q I h
  refine wpAny_Call_method_late hbase hfew hline rfl (thn (ho pins s σ H _ I h) fun v s1 ⟨x, H1, I1, r1, ty, q1⟩ => ?_)
  obtain ⟨h1, h2⟩ := tyV_is I1 r1 ty
  refine ⟨T, id, pa, slot, hty, h1, h2, ?_⟩
  have hA := ha cpos pins s1 σ H1 _ I1 q1
  rw [hs] at hA ⊢
  refine Calls.callWith_builtin (by show (false || (backTo cpos (starEach es X.env)).any (·.1)) = false; rw [hplain] <;> rfl) (Calls.evalArgs_plain ?_)
  exact thn hA fun us s2 ⟨vs, H2, I2, r2, q2⟩ => hm pins s2 σ H2 x vs v us Q I2 r1 r2 q2
/- xs.append(e), list.index on a module's tuple .. are MtR facts of 06m -/
end
end L2

namespace L2
open PySem PySem.Spec PyProof.Rows

def MtM (X : Cx) (id : String) (r : V → List V → Hp → VK → Prop) : Prop :=
  ∀ (pins : List (Addr × Obj)) (s : Shared) (σ : St) (H : Hp) (x : V) (xs : List V) (v : Value) (us : List Value) (Q : VK), Inv X pins σ H s → RelV x v → Vals xs us → r x xs H Q →
    wpAny (model X.prog X.w) X.A (call (.builtin id) (v :: us)) (EP X pins σ Q) X.xe s

/-! ### lists of values -/
theorem Vals.one : ∀ {x : V} {us : List Value}, Vals [x] us → ∃ u, us = [u] ∧ RelV x u
  | _, _, .cons r .nil => ⟨_, rfl, r⟩
theorem Vals.two : ∀ {x y : V} {us : List Value}, Vals [x, y] us → ∃ u v, us = [u, v] ∧ RelV x u ∧ RelV y v
  | _, _, _, .cons r (.cons q .nil) => ⟨_, _, rfl, r, q⟩
theorem Vals.zero : ∀ {us : List Value}, Vals [] us → us = []
  | _, .nil => rfl
theorem Vals.dropLast {xs : List V} {us : List Value} (h : Vals xs us) : Vals xs.dropLast us.dropLast := by
  induction h with
  | nil => exact .nil
  | cons r t ih =>
    cases t with
    | nil => exact .nil
    | cons q t' => exact .cons r ih
theorem Vals.eraseIdx : ∀ {xs : List V} {us : List Value} (i : Nat), Vals xs us → Vals (xs.eraseIdx i) (us.eraseIdx i)
  | _, _, _, .nil => .nil
  | _, _, 0, .cons _ t => t
  | _, _, i + 1, .cons r t => .cons r (Vals.eraseIdx i t)
theorem Vals.reverse {xs : List V} {us : List Value} (h : Vals xs us) : Vals xs.reverse us.reverse := by
  induction h with
  | nil => exact .nil
  | cons r t ih => rw [List.reverse_cons, List.reverse_cons]; exact Vals.append ih (.cons r .nil)
theorem Vals.rep {xs : List V} {us : List Value} (h : Vals xs us) : ∀ k : Nat, Vals (List.replicate k xs).flatten (List.replicate k us).flatten
  | 0 => .nil
  | k + 1 => by
    rw [List.replicate_succ, List.replicate_succ, List.flatten_cons, List.flatten_cons]
    exact Vals.append h (Vals.rep h k)
theorem erase_last {α : Type} (l : List α) : l.eraseIdx (l.length - 1) = l.dropLast := by
  induction l with
  | nil => rfl
  | cons a r ih =>
    cases r with
    | nil => rfl
    | cons b r =>
      have e : (a :: b :: r).length - 1 = ((b :: r).length - 1) + 1 := by
        have h1 : (a :: b :: r).length = r.length + 2 := rfl
        have h2 : (b :: r).length = r.length + 1 := rfl
        omega
      rw [e, List.eraseIdx_cons_succ, ih]
      all_goals rfl
theorem len_erase {α : Type} : ∀ (l : List α) (i : Nat), (l.eraseIdx i).length ≤ l.length
  | [], _ => Nat.le_refl _
  | _ :: _, 0 => Nat.le_succ _
  | _ :: r, i + 1 => Nat.succ_le_succ (len_erase r i)
theorem foldl_rep (its : List Value) : ∀ (k : Nat) (acc : List Value),
    List.foldl (fun x1 x2 => x1 ++ x2) acc.toArray (List.replicate k its.toArray) = (acc ++ (List.replicate k its).flatten).toArray
  | 0, acc => by simp
  | k + 1, acc => by
    have e : acc.toArray ++ its.toArray = (acc ++ its).toArray := by simp
    have e2 : (acc ++ its) ++ (List.replicate k its).flatten = acc ++ (List.replicate (k + 1) its).flatten := by
      rw [List.replicate_succ, List.flatten_cons, List.append_assoc]
    rw [← e2, ← foldl_rep its k (acc ++ its), ← e, List.replicate_succ, List.foldl_cons]

section
variable {X : Cx} {pins : List (Addr × Obj)} {σ : St} {H : Hp} {s : Shared} {l b : Addr} {xs ys zs : List V}

/-! ### the two steps: a tracked list is rewritten, a new list is laid -/
theorem Inv.lset {its its' : List Value} {n : Nat} {f : Array Value → Array Value} {t' : Nat} (I : Inv X pins σ H s) (hH : H l = some (.lst xs))
    (e : s.heap.get? l = some { cls := .type "list", data := .seq its.toArray n }) (hf : f its.toArray = its'.toArray) (hv : Vals ys its') (hz : ys.length ≤ sizeLine) :
    Inv X pins σ (upd H l (.lst ys)) { s with heap := s.heap.update l (Obj.mapSeq f), toks := t' } := by
  have q := PySem.IsL.update e f
  rw [hf] at q
  refine I.write (x := l) (e := l) (by rw [hH]; exact trivial) (.inl rfl) (fun b' u hb hu => (Heap.get?_update_other s.heap (Obj.mapSeq f) (Ne.symm hb)).trans hu) ⟨_, q⟩ ?_
  exact ⟨hz, its', _, hv, q⟩
theorem Inv.lnew {its : List Value} {t' : Nat} (I : Inv X pins σ H s) (hv : Vals ys its) (hz : ys.length ≤ sizeLine) :
    Inv X pins σ (upd H s.heap.objs.size (.lst ys)) { s with heap := s.heap.push { cls := .type "list", data := .seq its.toArray }, toks := t' } :=
  I.laid (fun _ _ q => Heap.get?_push_of_some _ q) (Nat.le_refl _) ⟨hz, its, 0, hv, Heap.get?_push_size _ rfl⟩
theorem Inv.fresh (I : Inv X pins σ H s) : H s.heap.objs.size = none := I.hok.fresh (Nat.le_refl _)
theorem Inv.lstM (I : Inv X pins σ H s) (hH : H l = some (.lst xs)) : xs.length ≤ sizeLine ∧ ∃ (its : List Value) (n : Nat), Vals xs its ∧ xs.length = its.length ∧ s.heap.get? l = some { cls := .type "list", data := .seq its.toArray n } := by
  obtain ⟨z, its, n, r, e⟩ := I.hok l _ hH
  exact ⟨z, its, n, r, r.length, e⟩

theorem notLongL {n : Nat} (h : n ≤ sizeLine) : Builtin.List.listTooLong n = false := by
  unfold Builtin.List.listTooLong
  exact decide_eq_false (by omega)
end

section
variable {X : Cx}

/-! ### methods -/
def rAppend : V → List V → Hp → VK → Prop := fun x vs H Q => ∃ l xs y, x = .ref l ∧ vs = [y] ∧ H l = some (.lst xs) ∧ xs.length < sizeLine ∧ Q .non (upd H l (.lst (xs ++ [y])))
theorem mt_append : MtM X "list.append" rAppend := by
  intro pins s σ H x vs v us Q I rx rv h
  obtain ⟨l, xs, y, rfl, rfl, hH, hz, q⟩ := h
  cases rx
  obtain ⟨u, rfl, ru⟩ := rv.one
  obtain ⟨z, its, n, r, hl, e⟩ := I.lstM hH
  refine call_meets F.slot_list_append ⟨_, e, rfl⟩ F.entry_list_append (F.args_list_append_2 _ _) (PySem.list_append l its.toArray n u (by rw [List.size_toArray]; omega)) ⟨e, ?_⟩
  refine ⟨.non, _, I.lset (its' := its ++ [u]) hH e (by simp) (r.append (.cons ru .nil)) ?_, rfl, q⟩
  rw [List.length_append, List.length_singleton]
  omega

def rExtend : V → List V → Hp → VK → Prop := fun x vs H Q => ∃ l b xs zs, x = .ref l ∧ vs = [.ref b] ∧ H l = some (.lst xs) ∧ H b = some (.lst zs) ∧ xs.length + zs.length ≤ sizeLine ∧ Q .non (upd H l (.lst (xs ++ zs)))
theorem mt_extend : MtM X "list.extend" rExtend := by
  intro pins s σ H x vs v us Q I rx rv h
  obtain ⟨l, b, xs, zs, rfl, rfl, hH, hB, hz, q⟩ := h
  cases rx
  obtain ⟨u, rfl, ru⟩ := rv.one
  cases ru
  obtain ⟨z, its, n, r, hl, e⟩ := I.lstM hH
  obtain ⟨z2, its2, n2, r2, hl2, e2⟩ := I.lstM hB
  have hsz : its.toArray.size + its2.toArray.size ≤ sizeLine := by rw [List.size_toArray, List.size_toArray]; omega
  have hlong : ¬ (!its.toArray.isEmpty && Builtin.List.listTooLong (its.toArray.size + its2.toArray.size)) = true := by
    rw [notLongL hsz, Bool.and_false]
    exact Bool.false_ne_true
  refine call_meets F.slot_list_extend ⟨_, e, rfl⟩ F.entry_list_extend (F.args_list_extend_2 _ _)
    (AutoSeq1.list_extend_list_list_0 l its.toArray n b its2.toArray n2 hlong (by rw [List.size_toArray]; omega) (by omega)) ⟨e, e2, ?_⟩
  refine ⟨.non, _, I.lset (its' := its ++ its2) hH e (by simp) (r.append r2) ?_, rfl, q⟩
  rw [List.length_append]
  omega

def rPop : V → List V → Hp → VK → Prop := fun x vs H Q => ∃ l xs y, x = .ref l ∧ vs = [] ∧ H l = some (.lst xs) ∧ xs[xs.length - 1]? = some y ∧ Q y (upd H l (.lst xs.dropLast))
theorem mt_pop : MtM X "list.pop" rPop := by
  intro pins s σ H x vs v us Q I rx rv h
  obtain ⟨l, xs, y, rfl, rfl, hH, hy, q⟩ := h
  cases rx
  have hus := rv.zero
  subst hus
  obtain ⟨z, its, n, r, hl, e⟩ := I.lstM hH
  obtain ⟨u, hu, ru⟩ := r.get hy
  have hy' : its.toArray[its.toArray.size - 1]? = some u := by
    show its.toArray[its.length - 1]? = some u
    rw [← Array.getElem?_toList, ← hl]
    exact hu
  refine call_meets F.slot_list_pop ⟨_, e, rfl⟩ F.entry_list_pop (F.args_list_pop_1 _) (MeetsSeq.list_pop_last l its.toArray n u hy' (by rw [List.size_toArray]; omega)) ⟨e, ?_⟩
  refine ⟨y, _, I.lset (its' := its.dropLast) hH e ?_ r.dropLast ?_, ru, q⟩
  · show its.toArray.eraseIdxIfInBounds (its.toArray.size - 1) = its.dropLast.toArray
    rw [List.size_toArray, List.eraseIdxIfInBounds_toArray, erase_last]
  · rw [List.length_dropLast]
    omega

def rPopAt : V → List V → Hp → VK → Prop := fun x vs H Q => ∃ l xs i k y, x = .ref l ∧ vs = [.int i] ∧ H l = some (.lst xs) ∧ -(2 ^ 63) ≤ i ∧ i < 2 ^ 63 ∧ seqIndex? i xs.length = some k ∧ xs[k]? = some y ∧ Q y (upd H l (.lst (xs.eraseIdx k)))
theorem mt_popAt : MtM X "list.pop" rPopAt := by
  intro pins s σ H x vs v us Q I rx rv h
  obtain ⟨l, xs, i, k, y, rfl, rfl, hH, h1, h2, hk, hy, q⟩ := h
  cases rx
  obtain ⟨u, rfl, ru⟩ := rv.one
  obtain ⟨t, rfl⟩ := ru
  obtain ⟨z, its, n, r, hl, e⟩ := I.lstM hH
  obtain ⟨w, hw, rw'⟩ := r.get hy
  refine call_meets F.slot_list_pop ⟨_, e, rfl⟩ F.entry_list_pop (F.args_list_pop_2 _ _)
    (MeetsSeq.list_pop_at l its.toArray n i t k w (fitsIndex_both h1 h2) (by rw [List.size_toArray, ← hl]; exact hk) (by rw [← Array.getElem?_toList]; exact hw) (by rw [List.size_toArray]; omega)) ⟨e, ?_⟩
  refine ⟨y, _, I.lset (its' := its.eraseIdx k) hH e ?_ (r.eraseIdx k) ?_, rw', q⟩
  · show its.toArray.eraseIdxIfInBounds k = (its.eraseIdx k).toArray
    rw [List.eraseIdxIfInBounds_toArray]
  · have := len_erase xs k
    omega

def rReverse : V → List V → Hp → VK → Prop := fun x vs H Q => ∃ l xs, x = .ref l ∧ vs = [] ∧ H l = some (.lst xs) ∧ Q .non (upd H l (.lst xs.reverse))
theorem mt_reverse : MtM X "list.reverse" rReverse := by
  intro pins s σ H x vs v us Q I rx rv h
  obtain ⟨l, xs, rfl, rfl, hH, q⟩ := h
  cases rx
  have hus := rv.zero
  subst hus
  obtain ⟨z, its, n, r, hl, e⟩ := I.lstM hH
  refine call_meets F.slot_list_reverse ⟨_, e, rfl⟩ F.entry_list_reverse (F.args_list_reverse_1 _) (AutoSeq1.list_reverse_list_0 l its.toArray n (by rw [List.size_toArray]; omega)) ⟨e, ?_⟩
  refine ⟨.non, _, I.lset (its' := its.reverse) hH e (by simp) r.reverse ?_, rfl, q⟩
  rw [List.length_reverse]
  omega

def rClear : V → List V → Hp → VK → Prop := fun x vs H Q => ∃ l xs, x = .ref l ∧ vs = [] ∧ H l = some (.lst xs) ∧ Q .non (upd H l (.lst []))
theorem mt_clear : MtM X "list.clear" rClear := by
  intro pins s σ H x vs v us Q I rx rv h
  obtain ⟨l, xs, rfl, rfl, hH, q⟩ := h
  cases rx
  have hus := rv.zero
  subst hus
  obtain ⟨z, its, n, r, hl, e⟩ := I.lstM hH
  refine call_meets F.slot_list_clear ⟨_, e, rfl⟩ F.entry_list_clear (F.args_list_clear_1 _) (AutoSeq1.list_clear_list_0 l its.toArray n (by rw [List.size_toArray]; omega)) ⟨e, ?_⟩
  exact ⟨.non, _, I.lset (its' := []) (ys := []) hH e rfl .nil (Nat.zero_le _), rfl, q⟩

/-! ### list + list, list += list, list * int -/
def rCat : R2 := fun x y H Q => ∃ l b xs zs, x = .ref l ∧ y = .ref b ∧ H l = some (.lst xs) ∧ H b = some (.lst zs) ∧ xs.length + zs.length ≤ sizeLine ∧ ∀ p, H p = none → Q (.ref p) (upd H p (.lst (xs ++ zs)))
theorem op_cat : OpR X (binaryOp .Add) rCat := by
  intro pins s σ H x y v u Q I rx ry h
  obtain ⟨l, b, xs, zs, rfl, rfl, hH, hB, hz, q⟩ := h
  cases rx
  cases ry
  obtain ⟨z, its, n, r, hl, e⟩ := I.lstM hH
  obtain ⟨z2, its2, n2, r2, hl2, e2⟩ := I.lstM hB
  refine PySem.P.add_list e e2 ?_ (by rw [List.size_toArray, List.size_toArray]; omega)
  have ea : its.toArray ++ its2.toArray = (its ++ its2).toArray := by simp
  rw [ea]
  exact ⟨.ref _, _, I.lnew (t' := s.toks) (r.append r2) (by rw [List.length_append]; omega), rfl, q _ I.fresh⟩
/-- a list times an int (a negative one is nothing) -/
def rRep : R2 := fun x y H Q => ∃ l k xs, x = .ref l ∧ y = .int k ∧ H l = some (.lst xs) ∧ -(2 ^ 63) ≤ k ∧ k < 2 ^ 63 ∧ xs.length * k.toNat ≤ sizeLine ∧
  ∀ p, H p = none → Q (.ref p) (upd H p (.lst (List.replicate k.toNat xs).flatten))
theorem len_rep {α : Type} (xs : List α) (k : Nat) : (List.replicate k xs).flatten.length = k * xs.length := by
  induction k with
  | zero => simp
  | succ k ih => rw [List.replicate_succ, List.flatten_cons, List.length_append, ih, Nat.succ_mul, Nat.add_comm]
theorem op_rep : OpR X (binaryOp .Mult) rRep := by
  intro pins s σ H x y v u Q I rx ry h
  obtain ⟨l, k, xs, rfl, rfl, hH, h1, h2, hz, q⟩ := h
  cases rx
  obtain ⟨t, rfl⟩ := ry
  obtain ⟨z, its, n, r, hl, e⟩ := I.lstM hH
  have hlen : its.toArray.size * k.toNat ≤ sizeLine := by rw [List.size_toArray, ← hl]; exact hz
  have hcap : ¬ its.toArray.size * k.toNat > (2 ^ 63 - 1) / 8 := by
    have : (sizeLine : Nat) ≤ (2 ^ 63 - 1) / 8 := by decide
    omega
  have hfit : ¬ (!Builtin.List.listFitsIndex k) = true := by
    rw [fitsIndex_both h1 h2]
    exact Bool.false_ne_true
  have hlong : ¬ Builtin.List.listTooLong (its.toArray.size * k.toNat) = true := by
    rw [notLongL hlen]
    exact Bool.false_ne_true
  have hnew : List.foldl (fun x1 x2 => x1 ++ x2) #[] (List.replicate (if its.toArray.isEmpty = true then 0 else k.toNat) its.toArray) = (List.replicate k.toNat its).flatten.toArray := by
    have f0 : ∀ m : Nat, List.foldl (fun x1 x2 => x1 ++ x2) #[] (List.replicate m its.toArray) = (List.replicate m its).flatten.toArray := fun m => by
      have := foldl_rep its m []
      rw [List.nil_append] at this
      exact this
    rw [f0]
    cases its with
    | nil => simp
    | cons a r' => rw [if_neg (by simp)]
  refine wpAny_binaryOp_repeat_ref (T := "list") (U := "int") (by decide) ⟨_, e, rfl⟩ (fun s' => typeIs_int s' k t) noFill_list_mul F.fills_int_mul F.slot_int_rmul repeat_list F.slot_int_index.lookup
    (call_meets F.slot_int_rmul (typeIs_int s k t) F.entry_int_rmul (F.args_int_rmul_2 _ _) (int___rmul___int_list k t l its.toArray n)
      ⟨e, rfl, ⟨_, e, rfl⟩, call_meets F.slot_list_mul ⟨_, e, rfl⟩ F.entry_list_mul (F.args_list_mul_2 _ _) (AutoListH.list___mul___list_int_3 l its.toArray n k t hfit hcap hlong) ⟨e, ?_⟩⟩)
  rw [hnew]
  exact ⟨.ref _, _, I.lnew (t' := s.toks) (r.rep k.toNat) (by rw [len_rep, Nat.mul_comm]; exact hz), rfl, q _ I.fresh⟩

/-! ### del xs[i] -/
theorem del_list {pins : List (Addr × Obj)} {s : Shared} {σ : St} {H : Hp} {l : Addr} {xs : List V} {i : Int} {t : Tok} {k : Nat} {Q : Unit → Shared → Prop} (I : Inv X pins σ H s) (hH : H l = some (.lst xs))
    (h1 : -(2 ^ 63) ≤ i) (h2 : i < 2 ^ 63) (hk : seqIndex? i xs.length = some k) (h : ∀ s', Inv X pins σ (upd H l (.lst (xs.eraseIdx k))) s' → Q () s') :
    wpAny (model X.prog X.w) X.A (delItem (.ref l) (.int i t)) Q X.xe s := by
  obtain ⟨z, its, n, r, hl, e⟩ := I.lstM hH
  refine PySem.P.delItem_list (k := k) e (fitsIndex_both h1 h2) (by rw [List.size_toArray, ← hl]; exact hk) (h _ ?_) (by rw [List.size_toArray]; omega)
  refine I.lset (its' := its.eraseIdx k) (t' := s.toks) hH e ?_ (r.eraseIdx k) ?_
  · show its.toArray.eraseIdxIfInBounds k = (its.eraseIdx k).toArray
    rw [List.eraseIdxIfInBounds_toArray]
  · have := len_erase xs k
    omega
end

/-! ### xs[a:b] = ys -/
section
variable {prog : Program} {w : World} {A : Around} {E : Value → Shared → Prop} {s : Shared}
theorem splice_eq (its its2 : List Value) (a c : Nat) : its.toArray.extract 0 a ++ its2.toArray ++ its.toArray.extract c its.toArray.size = (its.take a ++ its2 ++ its.drop c).toArray := by
  apply Array.toList_inj.mp
  first
    | (simp
       exact List.take_of_length_le (by simp))
    | simp [List.take_of_length_le]
    | simp
theorem bounds_run {a c n : Nat} (hac : a ≤ c) (hc : c ≤ n) : sliceBounds (some (a : Int)) (some (c : Int)) none n = ((a : Int), (c : Int), 1) := by
  simp only [sliceBounds, Option.getD_none]
  have h1 : ¬ ((a : Int) < 0) := by omega
  have h2 : ¬ ((c : Int) < 0) := by omega
  simp only [h1, h2, if_false, show (1 : Int) > 0 by decide, if_true]
  congr 1
  · omega
  · congr 1; omega
set_option maxRecDepth 100000 in
/-- list.__setitem__ with a slice of step one and another list -/
theorem setItem_slice {l b sl : Addr} {items new : Array Value} {n n2 : Nat} {vl vu : Value} {a c : Nat} {Q : Unit → Shared → Prop}
    (e : s.heap.get? l = some { cls := .type "list", data := .seq items n }) (e2 : s.heap.get? b = some { cls := .type "list", data := .seq new n2 }) (hne : l ≠ b)
    (hs : s.heap.IsSliceOf sl vl vu .none) (pl : IsPart vl (some (a : Int))) (pu : IsPart vu (some (c : Int))) (hac : a ≤ c) (hc : c ≤ items.size)
    (hsz : items.size + new.size ≤ sizeLine) (h : Q () { s with heap := s.heap.update l (Obj.mapSeq fun xs => xs.extract 0 a ++ new ++ xs.extract c xs.size) }) :
    wpAny (model prog w) A (setItem (.ref l) (.ref sl) (.ref b)) Q E s := by
  have hl : s.heap.IsList l items := PySem.IsL.isList e
  have hb : s.heap.IsList b new := PySem.IsL.isList e2
  obtain ⟨os, hos, hcs, hds⟩ := id hs
  have hTs : s.TypeIs (.ref sl) "slice" := ⟨os, hos, hcs⟩
  have hstep : ¬ ((rawPart none == rawInt 0) = true) := Bool.false_ne_true
  have hsame : Builtin.List.listSameRef (.ref l) (.ref b) = false := by
    unfold Builtin.List.listSameRef
    exact beq_eq_false_iff_ne.mpr hne
  have hmax : (max (a : Int) (c : Int)).toNat = c := by omega
  have hz' : ((fun xs : Array Value => xs.extract 0 a ++ new ++ xs.extract c xs.size) items).size ≤ sizeLine + 1 := by
    simp only [Array.size_append, Array.size_extract]
    omega
  unfold setItem
  try with_reducible refine wpAny_holding ?_
  first | refine wpAny_bind (wpAny_pure ?_) | skip
  refine wpAny_bind (wpAny_sequenceKey hl.typeIs (by decide) ?_)
  refine wpAny_bind (wpAny_callSpecial?_slot (name := Str.ofString "__setitem__") hl.typeIs slot_list_setitem
    (wpAny_call_entry slot_list_setitem hl.typeIs entry_list_setitem ?_ (args_list_setitem _ _ _)))
  show wpAny _ _ (Builtin.List.listSubscript? (.ref sl) >>= _) _ _ s
  refine wpAny_bind ?_
  unfold Builtin.List.listSubscript?
  refine wpAny_bind (wpAny_specialOf hTs slice_no_index ?_)
  simp only [Option.isNone_none, if_true]
  refine wpAny_pure ?_
  show wpAny _ _ (typeOf (.ref sl) >>= _) _ _ s
  refine wpAny_bind (wpAny_typeOf hTs ?_)
  first
    | rw [if_neg (by decide)]
    | refine PySem.W.KFB.if_not (by decide) ?_
  rw [listSliceParts_eq]
  refine wpAny_bind (wpAny_bind (wpAny_field hos hds (x := .none) rfl (wpAny_bind (wpAny_listPart .none ?_))))
  rw [if_neg hstep]
  refine wpAny_bind (wpAny_field hos hds (x := vl) rfl (wpAny_bind (wpAny_listPart pl ?_)))
  refine wpAny_bind (wpAny_field hos hds (x := vu) rfl (wpAny_bind (wpAny_listPart pu (wpAny_pure ?_))))
  first
    | simp only [hsame, Bool.false_eq_true, if_false]
    | refine PySem.W.KFB.if_not hsame ?_
    | (dsimp only
       rw [if_neg (by rw [hsame]; exact Bool.false_ne_true)])
  refine wpAny_bind (m := Builtin.List.listAllItems (.ref b) "must assign iterable to extended slice") ?_
  unfold Builtin.List.listAllItems
  refine wpAny_bind (wpAny_typeOf hb.typeIs ?_)
  first
    | refine PySem.W.KFB.if_so (by decide) ?_
    | rw [if_pos (by decide)]
    | simp only [beq_self_eq_true, Bool.true_or, if_true]
  unfold Builtin.List.listItems
  refine wpAny_bind (wpAny_seqItems e2 rfl (wpAny_pure ?_))
  refine wpAny_bind (wpAny_bind (wpAny_seqItems e rfl (wpAny_pure ?_)))
  refine wpAny_bind (wpAny_of_eq ((sliceIndices_raw (some (a : Int)) (some (c : Int)) none items.size (by simp)).trans (congrArg (pure : Int × Int × Int → Sem (Int × Int × Int)) (bounds_run hac hc))) ?_)
  show wpAny _ _ (if ((1 : Int) == 1) = true then _ else _) _ _ s
  rw [if_pos (by decide)]
  refine wpAny_bind (wpAny_rule ?_)
  first
    | simp only [notLongL hsz, Bool.false_eq_true, if_false]
    | refine PySem.W.KFB.if_not (notLongL hsz) ?_
  first | refine wpAny_bind (wpAny_pure ?_) | skip
  show wpAny _ _ (updateSeq l (fun xs => xs.extract 0 ((a : Int)).toNat ++ new ++ xs.extract (max (a : Int) (c : Int)).toNat xs.size) >>= _) _ _ s
  rw [hmax, Int.toNat_natCast]
  refine wpAny_bind (wpAny_updateSeq (hz := Nat.le_trans (Nat.le_add_right _ _) hsz) (_hz' := hz') e rfl ?_)
  refine wpAny_bind (wpAny_letGo ?_)
  first
    | exact wpAny_bind (wpAny_pure (wpAny_pure ⟨.none, rfl, wpAny_pure h⟩))
    | exact wpAny_pure ⟨.none, rfl, wpAny_pure h⟩
end

section
variable {X : Cx}
/-- xs[a:c] = ys of another list, at the value level: sl is the slice object that was just made -/
theorem set_slice {pins : List (Addr × Obj)} {s : Shared} {σ : St} {H : Hp} {l b sl : Addr} {xs ys : List V} {a c : Int} {vl vu : Value} {Q : Unit → Shared → Prop} (I : Inv X pins σ H s)
    (hH : H l = some (.lst xs)) (hB : H b = some (.lst ys)) (hne : l ≠ b) (hs : s.heap.IsSliceOf sl vl vu .none) (ra : RelV (.int a) vl) (rc : RelV (.int c) vu) (h0 : 0 ≤ a) (hac : a ≤ c) (hc : c ≤ xs.length)
    (hz : xs.length + ys.length ≤ sizeLine) (h : ∀ s', Inv X pins σ (upd H l (.lst (xs.take a.toNat ++ ys ++ xs.drop c.toNat))) s' → Q () s') :
    wpAny (model X.prog X.w) X.A (setItem (.ref l) (.ref sl) (.ref b)) Q X.xe s := by
  obtain ⟨ta, rfl⟩ := ra
  obtain ⟨tc, rfl⟩ := rc
  obtain ⟨z, its, n, r, hl, e⟩ := I.lstM hH
  obtain ⟨z2, its2, n2, r2, hl2, e2⟩ := I.lstM hB
  obtain ⟨a', rfl⟩ := Int.eq_ofNat_of_zero_le h0
  obtain ⟨c', rfl⟩ := Int.eq_ofNat_of_zero_le (Int.le_trans h0 hac)
  simp only [Int.toNat_natCast] at h
  refine setItem_slice (a := a') (c := c') e e2 hne hs (.int _ _) (.int _ _) (by omega) (by rw [List.size_toArray]; omega) (by rw [List.size_toArray, List.size_toArray]; omega) (h _ ?_)
  refine I.lset (its' := its.take a' ++ its2 ++ its.drop c') (t' := s.toks) hH e ?_ (Vals.append (Vals.append (r.take _) r2) (r.drop _)) ?_
  · exact splice_eq its its2 a' c'
  · rw [List.length_append, List.length_append, List.length_take, List.length_drop]
    omega
end
end L2

namespace Att
open PySem PySem.W PySem.Calls PyProof.Rows

/-! ### the script -/
theorem ints_of_wellAll {P : Params} {h : Heap} : ∀ (ns : List Int) (vs : List Value), WellAll P h vs (ns.map WData.int) → IntsAre vs ns := by
  intro ns
  induction ns with
  | nil =>
    intro vs w
    rw [List.map_nil] at w
    cases w
    exact .nil
  | cons n ns ih =>
    intro vs w
    rw [List.map_cons] at w
    cases w with
    | cons a b =>
      cases a
      exact .cons _ _ (ih _ b)

theorem script_of {l : OpenLaw} {n : Nat} (hn : l.most = some n) {P : Params} {h : Heap} {args : List WData} {vals : List Value}
    (hpre : l.row.toRowW.claim.pre args = true) (hwl : WellAll P h vals args) :
    ∃ a vs ns, vals = [Value.ref a] ∧ args = [WData.list (ns.map WData.int)] ∧ h.get? a = some { cls := .type "list", data := .seq vs.toArray } ∧ IntsAre vs ns ∧ ns.length ≤ n := by
  have hsh : WShape.hasAll [] args [.list .int] = true := (pre_splitW hpre).1
  have hc : l.pre.holds [] { args := args } = true := (pre_splitW hpre).2
  obtain ⟨d, r, rfl, h1, h2⟩ := hasAllW_cons hsh
  obtain rfl := hasAllW_nil h2
  obtain ⟨xs, rfl, h3⟩ := hasW_list h1
  obtain ⟨ns, rfl⟩ := items_int h3
  have hlen : ns.length ≤ n := by
    unfold OpenLaw.pre at hc
    have h4 : (WTm.not (.lt (.lit (.int (n : Int))) (.len (.arg 0)))).holds [] { args := [.list (ns.map .int)] } = true := by
      have h4 := (holds_andW hc).1
      rw [hn] at h4
      exact h4
    have h5 := condW_of h4 (w_not (w_lt w_lit (w_len_list (w_arg rfl))))
    rw [List.length_map] at h5
    refine Nat.le_of_not_lt fun q => ?_
    have q' : (n : Int) < ((ns.length : Nat) : Int) := by omega
    first
      | (rw [decide_eq_true q'] at h5; exact absurd h5 (by decide))
      | (simp at h5; omega)
  cases hwl with
  | cons w1 w2 =>
    cases w2
    cases w1 with
    | list ho hall => exact ⟨_, _, ns, rfl, rfl, ho, ints_of_wellAll ns _ hall, hlen⟩

theorem post_true (l : OpenLaw) (args : List WData) : l.row.toRowW.claim.post args (.bool true) args = true :=
  postW_of (r := l.row.toRowW) (X := (true == true))
    (show WShape.has [] (.bool true) .bool = true by first | rfl | decide | simp [WShape.has, WShape.arms, WShape.armsAll])
    (show (WTm.eq .res (.lit (.bool true))).value [] { args := args, res := some (.bool true), after := args } = some (.bool (true == true)) from w_eq_bool (w_res rfl) w_lit) rfl

/-! ### the attachment: holds_open's last premise (the goal 'hc' behind k_head) from a wpAny of the law's body -/
theorem attach {l : OpenLaw} {n : Nat} {q : Program} {loose : List Str} {XP : (Str → Option Value) → Heap → Prop} {YP : World → Heap → Prop} {d : DefRec} {x : Str}
    (hn : l.most = some n) (hdf : d.params.defaults = [])
    (hbind : ∀ pm cd doc v : Value, bindArgs (docDef d.name d.params d.body d.scope pm cd doc) ⟨[v], []⟩ = pure [(x, v)])
    (hx : d.scope.names.lookup x = some .local ∨ d.scope.names.lookup x = some .cell)
    (hk : d.scope.kind = .function) (hco : d.scope.isCoroutine = false) (hgen : d.scope.isGenerator = false)
    (body : ∀ (w : World) (s₀ s₁ s : Shared) (mg mb : Str → Option Value) (fa : Addr) (o : Obj) (pm cd doc : Value) (a : Addr) (vs : List Value) (ns : List Int),
      Ground q loose [] XP w s₀ mg mb s₁.heap → YP w s₁.heap →
      s₁.heap.get? fa = some o → o.data = .func (docDef d.name d.params d.body d.scope pm cd doc) → s₁.heap.CodeRec cd d.name → mg d.name = some (.ref fa) →
      s₁.heap.get? a = some { cls := .type "list", data := .seq vs.toArray } → IntsAre vs ns → ns.length ≤ n →
      s.gens = #[] → s.os = s₁.os →
      Fr s₁.heap s₁.heap.objs.size s.heap (bindL (envOfC d.name d.scope s₁.heap.objs.size fa cd).kindOf [(x, .ref a)] fun _ => none) →
      Cl s₁.heap.objs.size (cellsFrom (s₁.heap.objs.size + 1) d.scope.names []) s.heap (bindC (envOfC d.name d.scope s₁.heap.objs.size fa cd).kindOf [(x, .ref a)] fun _ => none) →
      wpAny (model l.prog w) (callerA.deeper (envOfC d.name d.scope s₁.heap.objs.size fa cd)) (execs d.body (envOfC d.name d.scope s₁.heap.objs.size fa cd))
        (fun f s' => f = .ret (.bool true) ∧ OldK s₁.heap s'.heap ∧ s'.os = s₁.os ∧ AllBare s'.gens) (fun _ _ => False) s) :
    WalkO q loose XP YP l.row.toRowW d [] (fun f vs => PySem.call f vs) := by
  intro w s₀ s₁ mg mb G Y fa o pm cd doc dV kV ho hd hcd hD hmg hg args vals as hpre hlay hrd hwl hlo
  obtain rfl : dV = .none := Dflts.none hD hdf
  obtain rfl : kV = .none := Dflts.noKw hD
  obtain ⟨a, vs, ns, rfl, rfl, hobj, hints, hlen⟩ := script_of hn hpre hwl
  refine enter_call ?_
  refine call_cells_ret (o := o) (by rw [depth_caller]; decide) ho (fd_plain hd) G.T.nolimit hcd (hbind pm cd doc (.ref a)) (fun y hy => ?_) (fun h₁ tk F X => ?_) hco hgen hk
  · obtain rfl : y = (x, Value.ref a) := List.mem_singleton.mp hy
    rcases hx with e | e
    · exact .inl e
    · exact .inr ⟨e, cellsFrom_some _ _ _ (.inl e)⟩
  · refine wpAny_mono (body w s₀ s₁ { s₁ with heap := h₁, toks := tk } mg mb fa o pm cd doc a vs ns G Y ho (fd_plain hd) hcd hmg hobj hints hlen hg rfl F X) (fun f s' hq => ?_) (fun _ _ hq => hq)
    obtain ⟨rfl, h2, h3, h4⟩ := hq
    exact ⟨.inl ⟨.bool true, .bool true, [], rfl, fun _ => rfl, .bool true, post_true l _, fun _ => ⟨List.Pairwise.nil, fun _ hm => (nomatch hm)⟩⟩, h2, h3, h4⟩

/-- the same from a codeAny of the CALL (for a layer whose function contracts speak of calls) -/
theorem attach_call {l : OpenLaw} {n : Nat} {q : Program} {loose : List Str} {XP : (Str → Option Value) → Heap → Prop} {YP : World → Heap → Prop} {d : DefRec}
    (hn : l.most = some n) (hdf : d.params.defaults = [])
    (call : ∀ (w : World) (s₀ s₁ : Shared) (mg mb : Str → Option Value) (fa : Addr) (o : Obj) (pm cd doc : Value) (a : Addr) (vs : List Value) (ns : List Int),
      Ground q loose [] XP w s₀ mg mb s₁.heap → YP w s₁.heap →
      s₁.heap.get? fa = some o → o.data = .func (docDef d.name d.params d.body d.scope pm cd doc) → s₁.heap.CodeRec cd d.name → mg d.name = some (.ref fa) →
      s₁.heap.get? a = some { cls := .type "list", data := .seq vs.toArray } → IntsAre vs ns → ns.length ≤ n → s₁.gens = #[] →
      codeAny (model l.prog w) callerA (.call (.ref fa) ⟨[.ref a], []⟩) (fun r s' => r = .ok (.ret (.bool true)) ∧ OldK s₁.heap s'.heap ∧ s'.os = s₁.os ∧ AllBare s'.gens) s₁) :
    WalkO q loose XP YP l.row.toRowW d [] (fun f vs => PySem.call f vs) := by
  intro w s₀ s₁ mg mb G Y fa o pm cd doc dV kV ho hd hcd hD hmg hg args vals as hpre hlay hrd hwl hlo
  obtain rfl : dV = .none := Dflts.none hD hdf
  obtain rfl : kV = .none := Dflts.noKw hD
  obtain ⟨a, vs, ns, rfl, rfl, hobj, hints, hlen⟩ := script_of hn hpre hwl
  refine enter_call (codeAny_mono (call w s₀ s₁ mg mb fa o pm cd doc a vs ns G Y ho (fd_plain hd) hcd hmg hobj hints hlen hg) fun r s' hq => ?_)
  obtain ⟨rfl, h2, h3, h4⟩ := hq
  exact ⟨.inl ⟨.bool true, .bool true, [], rfl, fun _ => rfl, .bool true, post_true l _, fun _ => ⟨List.Pairwise.nil, fun _ hm => (nomatch hm)⟩⟩, h2, h3, h4⟩

/-- the same where the top left finished generators (o_head chose holds_openN): nothing may have changed at all and no generator may be left -/
theorem attachN {l : OpenLaw} {n : Nat} {q : Program} {loose : List Str} {XP : (Str → Option Value) → Heap → Prop} {YP : World → Heap → Prop} {d : DefRec} {x : Str}
    (hn : l.most = some n) (hdf : d.params.defaults = [])
    (hbind : ∀ pm cd doc v : Value, bindArgs (docDef d.name d.params d.body d.scope pm cd doc) ⟨[v], []⟩ = pure [(x, v)])
    (hx : d.scope.names.lookup x = some .local ∨ d.scope.names.lookup x = some .cell)
    (hk : d.scope.kind = .function) (hco : d.scope.isCoroutine = false) (hgen : d.scope.isGenerator = false)
    (body : ∀ (w : World) (s₀ s₁ s : Shared) (mg mb : Str → Option Value) (fa : Addr) (o : Obj) (pm cd doc : Value) (a : Addr) (vs : List Value) (ns : List Int),
      Ground q loose [] XP w s₀ mg mb s₁.heap → YP w s₁.heap →
      s₁.heap.get? fa = some o → o.data = .func (docDef d.name d.params d.body d.scope pm cd doc) → s₁.heap.CodeRec cd d.name → mg d.name = some (.ref fa) →
      s₁.heap.get? a = some { cls := .type "list", data := .seq vs.toArray } → IntsAre vs ns → ns.length ≤ n →
      s.gens = #[] → s.os = s₁.os →
      Fr s₁.heap s₁.heap.objs.size s.heap (bindL (envOfC d.name d.scope s₁.heap.objs.size fa cd).kindOf [(x, .ref a)] fun _ => none) →
      Cl s₁.heap.objs.size (cellsFrom (s₁.heap.objs.size + 1) d.scope.names []) s.heap (bindC (envOfC d.name d.scope s₁.heap.objs.size fa cd).kindOf [(x, .ref a)] fun _ => none) →
      wpAny (model l.prog w) (callerA.deeper (envOfC d.name d.scope s₁.heap.objs.size fa cd)) (execs d.body (envOfC d.name d.scope s₁.heap.objs.size fa cd))
        (fun f s' => f = .ret (.bool true) ∧ (∀ b o, s₁.heap.get? b = some o → s'.heap.get? b = some o) ∧ s'.os = s₁.os ∧ s'.gens = #[]) (fun _ _ => False) s) :
    WalkN q loose XP YP l.row.toRowW d [] (fun f vs => PySem.call f vs) := by
  intro w s₀ s₁ mg mb G Y fa o pm cd doc dV kV ho hd hcd hD hmg hg args vals as hpre hlay hrd hwl hlo
  obtain rfl : dV = .none := Dflts.none hD hdf
  obtain rfl : kV = .none := Dflts.noKw hD
  obtain ⟨a, vs, ns, rfl, rfl, hobj, hints, hlen⟩ := script_of hn hpre hwl
  refine enter_callW ?_
  refine call_cells_ret (o := o) (by rw [depth_caller]; decide) ho (fd_plain hd) G.T.nolimit hcd (hbind pm cd doc (.ref a)) (fun y hy => ?_) (fun h₁ tk F X => ?_) hco hgen hk
  · obtain rfl : y = (x, Value.ref a) := List.mem_singleton.mp hy
    rcases hx with e | e
    · exact .inl e
    · exact .inr ⟨e, cellsFrom_some _ _ _ (.inl e)⟩
  · refine wpAny_mono (body w s₀ s₁ { s₁ with heap := h₁, toks := tk } mg mb fa o pm cd doc a vs ns G Y ho (fd_plain hd) hcd hmg hobj hints hlen hg rfl F X) (fun f s' hq => ?_) (fun _ _ hq => hq)
    obtain ⟨rfl, h2, h3, h4⟩ := hq
    exact ⟨.inl ⟨.bool true, .bool true, [], rfl, fun _ => rfl, .bool true, post_true l _, fun _ => ⟨List.Pairwise.nil, fun _ hm => (nomatch hm)⟩⟩, h2, h3, h4⟩

/-! ### rules over ANY heap (no ledger) from facts about the written part K: the library's own take a ledger (News) for what they write -/
section
variable {prog : Program} {w : World} {A : Around} {E : Value → Shared → Prop} {s : Shared} {K : Frag}

/-- a def of the module, or a method (qual 'C.m'), entered: the frame is the next address; cells behind it -/
theorem call_fn {R : Result → Shared → Prop} {name qual : Str} {params : Arguments} {body : List Stmt} {scope : Scope} {dV kV doc pm cdv ct oc : Value} {an od : Option Addr} {osl : Array (Option Value)} {f : Addr} {args : Args} {binds : List (Str × Value)}
    (X : K.In s.heap) (hlim : s.heap.NoLimit) (ho : K.lookup f = some ⟨oc, od, .func (fnOf name qual params body scope dV kV doc pm an cdv ct), osl⟩) (hcd : codeIn K cdv qual = true) (hroom : A.depth < recursionLimit)
    (hbind : BindsTo s (fnOf name qual params body scope dV kV doc pm an cdv ct) args binds)
    (hkind : (binds.all fun y => scope.names.lookup y.1 == some .local || scope.names.lookup y.1 == some .cell) = true)
    (h : ∀ s₁, InCallC s s.heap.objs.size (bindL (envOfC qual scope s.heap.objs.size f cdv).kindOf binds fun _ => none) (cellsFrom (s.heap.objs.size + 1) scope.names [])
        (bindC (envOfC qual scope s.heap.objs.size f cdv).kindOf binds fun _ => none) s₁ →
      wpAny (model prog w) (A.deeper (envOfC qual scope s.heap.objs.size f cdv)) (execs body (envOfC qual scope s.heap.objs.size f cdv))
        (fun fl s' => R (.ok (.ret (match fl with | .ret v => v | _ => .none))) s')
        (fun e s' => wpAny (model prog w) (A.deeper (envOfC qual scope s.heap.objs.size f cdv)) (leaving (envOfC qual scope s.heap.objs.size f cdv) e) (fun _ s'' => R (.error e) s'') (fun e' s'' => R (.error e') s'') s') s₁)
    (hco : scope.isCoroutine = false) (hgen : scope.isGenerator = false) (hk : scope.kind = .function) : codeAny (model prog w) A (.call (.ref f) args) R s := by
  refine codeAny_call_function hroom (X _ _ ho) rfl hco hgen rfl (codeRec_of X hcd) (hbind _ _ _ _ ?_)
  refine wpAny_newFunctionEnv_cells hk (kindsX hkind _) fun env he s₁ x => ?_
  subst he
  exact ⟨hlim.keeps x.toInCall.keep, codeAny_func (h s₁ x)⟩

/-- C(..): dict at size, instance at size + 1, then __init__ -/
theorem make_obj {R : Result → Shared → Prop} {C fI : Addr} {rest : List Value} {kw : List (Str × Value)}
    (X : K.In s.heap) (hm : makesIn K C = true) (hi : findIn K (.ref C) "__init__" = some (some (.ref fI))) (hf : isFn K (.ref fI) = true)
    (h : codeAny (model prog w) (A.under (.builtin "type.__call__" ⟨.ref C :: rest, kw⟩)) (.call (.ref fI) ⟨.ref (s.heap.objs.size + 1) :: rest, kw⟩) (InitBack (s.heap.objs.size + 1) R)
      { s with heap := (s.heap.push emptyDict).push (instObj C s.heap.objs.size) }) : codeAny (model prog w) A (.call (.ref C) ⟨rest, kw⟩) R s := by
  obtain ⟨hh, g, d, t, os⟩ := s
  exact make_core (makes_of X hm) (looks_findIn X hi) (fun self => bind_fn X self (beq_iff_eq.mp hf)) (.inl rfl) h

/-- x.name where the instance's dict holds the name and the class does not -/
theorem get_field {x C : Addr} {ox : Obj} {es : List DictEntry} {n : Nat} {name : Str} {expr : Bool} {v : Value} {Q : Value → Shared → Prop}
    (X : K.In s.heap) (I : PySem.W.InstAt s.heap x ox C (some (dictOf es n))) (hg : plainGet K C name = true) (hh : hasDictIn K C = true) (ha : findIn K (.ref C) name = some none)
    (hl : getL name es = some (some v)) (hv : handedIn v = true) (h : Q v { s with toks := s.toks + 1 }) : wpAny (model prog w) A (getAttr (.ref x) name expr) Q E s :=
  get_value X I (plainGet_of hg).1 (findObj_own hh ha rfl hl) hv h

/-- x.m(..): the method found in the class -/
theorem get_method {x C f : Addr} {ox : Obj} {es : List DictEntry} {n : Nat} {name : Str} {pl : Sem Bool} {Q : Value × List Value → Shared → Prop}
    (X : K.In s.heap) (I : PySem.W.InstAt s.heap x ox C (some (dictOf es n))) (hg : plainGet K C name = true) (hf : findIn K (.ref C) name = some (some (.ref f))) (ht : isFn K (.ref f) = true)
    (hl : getL name es = some none) (h : Q (.ref f, [.ref x]) s) : wpAny (model prog w) A (getMethod (.ref x) name pl) Q E s :=
  method_fn X I (plainGet_of hg).1 (plainGet_of hg).2 hf (beq_iff_eq.mp ht) (by show (lookIn name (dictOf es n)).map _ = _; rw [lookIn_dict, hl]; rfl) h

/-! the whole heap as the ledger: makes every rule that writes through a ledger a rule over any heap -/
def noObjs (h : Heap) : Heap := { h with objs := #[] }
theorem noObjs_get (h : Heap) (b : Addr) : (noObjs h).get? b = none := by
  cases e : (noObjs h).get? b with
  | none => rfl
  | some o => exact absurd (Heap.lt_size e) (Nat.not_lt_zero _)
def ledger (h : Heap) (L d : Addr) : List (Addr × Obj) := (List.range h.objs.size).filterMap fun a => if a = L ∨ a = d then none else (h.get? a).map fun o => (a, o)
theorem mem_ledger {h : Heap} {L d a : Addr} {o : Obj} : (a, o) ∈ ledger h L d ↔ a ≠ L ∧ a ≠ d ∧ h.get? a = some o := by
  unfold ledger
  rw [List.mem_filterMap]
  constructor
  · rintro ⟨b, _, e⟩
    split at e
    · cases e
    · rename_i hb
      obtain ⟨o', ho, e'⟩ := Option.map_eq_some_iff.mp e
      cases e'
      exact ⟨fun q => hb (.inl q), fun q => hb (.inr q), ho⟩
  · rintro ⟨n1, n2, ho⟩
    refine ⟨a, List.mem_range.mpr (Heap.lt_size ho), ?_⟩
    rw [if_neg (show ¬ (a = L ∨ a = d) from fun q => q.elim n1 n2), ho] <;> rfl
theorem news_ledger {h : Heap} {L d : Addr} {od : Obj} (hne : d ≠ L) (ho : h.get? d = some od) : News (noObjs h) L h ([] ++ (d, od) :: ledger h L d) := by
  rintro ⟨a, o⟩ hp
  rcases List.mem_cons.mp hp with e | hp
  · cases e
    exact ⟨ho, hne, noObjs_get _ _⟩
  · obtain ⟨n1, n2, e⟩ := mem_ledger.mp hp
    exact ⟨e, n1, noObjs_get _ _⟩
theorem fr_all {h : Heap} {L : Addr} {m : Str → Option Value} (n : h.Ns L m) : Fr (noObjs h) L h m :=
  ⟨n, fun b o e => (by rw [noObjs_get] at e; cases e), Nat.zero_le _⟩
/-- Upd of the head entry (for append_K, setItem_K ..) -/
theorem upd_ledger {h : Heap} {L d : Addr} {o o' : Obj} : Upd d o o' ((d, o) :: ledger h L d) ((d, o') :: ledger h L d) :=
  .head fun ⟨_, _⟩ hp => (mem_ledger.mp hp).2.1

/-- x.name = v over any heap: L is any namespace of the heap (the frame's, say): its map stays, its object is not told; all else but the dict stays -/
theorem set_field {x C dx L : Addr} {ox : Obj} {m : Str → Option Value} {es es' : List DictEntry} {n n' : Nat} {name : Str} {v : Value} {Q : Unit → Shared → Prop}
    (X : K.In s.heap) (I : PySem.W.InstAt s.heap x ox C (some (dictOf es n))) (hd : ox.dict = some dx) (hL : s.heap.Ns L m) (hne : dx ≠ L)
    (hs : findIn K (.ref C) "__setattr__" = some (some (.builtin "object.__setattr__"))) (hp : plainOver K C = true) (ht : takerIn K C name = some none) (hh : hasDictIn K C = true) (hl : (getL name es).isSome = true)
    (e : (putL name (PyData.keyHash w.params name) (.str name (s.toks + 1)) v es, putN name es n) = (es', n')) (hz : es'.length ≤ 1000)
    (h : ∀ h' : Heap, h'.Ns L m → h'.get? dx = some (dictOf es' n') → (∀ b o, b ≠ dx → b ≠ L → s.heap.get? b = some o → h'.get? b = some o) → Q () { s with heap := h', toks := s.toks + 2 }) :
    wpAny (model prog w) A (setAttr (.ref x) name v) Q E s := by
  obtain ⟨e1, e2⟩ := Prod.mk.inj e
  have hdx : s.heap.get? dx = some (dictOf es n) := by
    have := I.dict
    rw [hd] at this
    exact this
  refine set_plain X I hs (osa_dict (s := { s with toks := s.toks + 1 }) (h₀ := noObjs s.heap) (L := L) (m := m) (od := dictOf es n) (od' := dictOf es' n') (es := es') (n := n') (pre := []) (post := ledger s.heap L dx)
    (fr_all hL) (news_ledger hne hdx) X I hd hp ht hh hl (fun _ q => nomatch q) (fun ⟨_, _⟩ q => (mem_ledger.mp q).2.1) (by rw [putName_dict, e1, e2]) rfl hz fun h' F' N' => ?_)
  exact h h' F'.ns (N'.get (List.Mem.head _)) fun b o n1 n2 ho => N'.get (List.Mem.tail _ (mem_ledger.mpr ⟨n2, n1, ho⟩))
end
end Att

namespace L2
open PySem PySem.Spec PyProof.Rows

theorem vals_ints : ∀ {vs : List Value} {ns : List Int}, IntsAre vs ns → Vals (ns.map V.int) vs
  | _, _, .nil => .nil
  | _, _, .cons n t h => .cons ⟨t, rfl⟩ (vals_ints h)

/-- nothing is tracked but the script, known to the object (or it is an object of the module) -/
def Only (H : Hp) : Prop := ∀ b, H b = none ∨ ∃ o xs, H b = some (.frz o (.lst xs))

/-- THE HEAD: the law's promise, at the heap behind the top. F, the promise of the law's def, may use that base is part of the heap (so K.In base, base.Ns mainGlobals mg stand in Mod) -/
theorem law_call {P : Program} {w : World} {K : PySem.W.Frag} {mg mb : Str → Option Value} {CX : CXT} {k : Nat} {fa a : Addr} {fd : FuncData} {x : Str} {sp : Sp} {s₁ : Shared} {vs : List Value} {ns : List Int}
    (KX : K.In s₁.heap) (hns : s₁.heap.Ns mainGlobals mg) (hb : s₁.heap.Ns builtinsNs mb) (hbb : ∀ x : Str, x ≠ "__name__" → mb x = bootBuiltins x) (hlim : s₁.heap.NoLimit) (hg : s₁.gens = #[])
    (ha : s₁.heap.get? a = some { cls := .type "list", data := .seq vs.toArray }) (hi : IntsAre vs ns) (hl : ns.length ≤ sizeLine) (hr : Room k callerA)
    (F : ∀ base : Heap, K.In base → base.Ns mainGlobals mg → FnOk P w K mg base CX k fa fd [x] sp) (hbind : ∀ (s : Shared) (u : Value), BindsTo s fd ⟨[u], []⟩ [(x, u)])
    (hsp : ∀ H : Hp, Only H → SqL K H a (ns.map V.int) → sp [.ref a] H (fun v _ => v = .bl true) fun _ _ _ => False)
    (hCX : ∀ H e s', CX [] H s₁ (fun _ _ _ => False) e s' → False) :
    codeAny (model P w) callerA (.call (.ref fa) ⟨[.ref a], []⟩) (fun r s' => r = .ok (.ret (.bool true)) ∧ OldK s₁.heap s'.heap ∧ s'.os = s₁.os ∧ AllBare s'.gens) s₁ := by
  have rv := vals_ints hi
  have lenV := hi.length
  -- from an abstract heap in which nothing but the script may be tracked
  have core : ∀ H : Hp, Only H → SqL K H a (ns.map V.int) → HOk P w H s₁.heap → (∀ b, H b ≠ none → b = a) → (H a ≠ none → K.lookup a = none) →
      codeAny (model P w) callerA (.call (.ref fa) ⟨[.ref a], []⟩) (fun r s' => r = .ok (.ret (.bool true)) ∧ OldK s₁.heap s'.heap ∧ s'.os = s₁.os ∧ AllBare s'.gens) s₁ := by
    intro H hO hS hok hA hK
    have base_of : ∀ {b : Addr} {o : Obj}, s₁.heap.get? b = some o → H b = none → (hidT s₁.heap H).get? b = some o := fun e n => hidT_get e n
    have noA : ∀ {b : Addr} {o : Obj} {es : Array DictEntry} {ep : Nat}, s₁.heap.get? b = some o → o.data = .dict es ep → H b = none := fun {b o es ep} e d => by
      cases q : H b with
      | none => rfl
      | some u =>
        have e' : b = a := hA b (by rw [q]; simp)
        subst e'
        rw [ha] at e; cases e
        have d' : Data.seq vs.toArray _ = Data.dict es ep := d
        cases d'
    have nsK : ∀ {b : Addr} {m : Str → Option Value}, s₁.heap.Ns b m → (hidT s₁.heap H).Ns b m := fun {b m} ⟨o, es, ep, e, d, r⟩ => ⟨o, es, ep, base_of e (noA e d), d, r⟩
    have hKb : K.In (hidT s₁.heap H) := fun b o e => base_of (KX b o e) (by
      cases q : H b with
      | none => rfl
      | some u =>
        have e' : b = a := hA b (by rw [q]; simp)
        subst e'
        rw [hK (by rw [q]; simp)] at e; cases e)
    have hM : Mod K mg (hidT s₁.heap H) := ⟨hKb, nsK hns, ⟨mb, nsK hb, hbb⟩, let ⟨mc, h1, h2⟩ := hlim; ⟨mc, nsK h1, h2⟩⟩
    have e0 : Env0 P w K mg (hidT s₁.heap H) callerA [] s₁ H := ⟨rfl, hM, fun b o e => of_hidT e, Nat.le_of_eq (hidT_size _ _), trivial, fun b hb => absurd (show b ∈ ([] : List Addr) from hb) (by simp), hok, .of_eq hg⟩
    refine codeAny_mono ((F _ hKb (nsK hns)).run callerA [] s₁ H ⟨[.ref a], []⟩ [.ref a] [.ref a] _ _ hr e0 (hbind s₁ (.ref a)) (.cons rfl .nil) (hsp H hO hS)) fun r s' h => ?_
    cases r with
    | error e => exact (hCX H e s' h).elim
    | ok fl =>
      cases fl with
      | next => exact False.elim h
      | brk => exact False.elim h
      | cont => exact False.elim h
      | ret u =>
        obtain ⟨v, H', os, bare, un, hok', r', q⟩ := h
        have q' : v = .bl true := q
        subst q'
        obtain rfl : u = Value.bool true := r'
        refine ⟨rfl, OldK.of_keep fun b o e => ?_, os, bare⟩
        cases q : H b with
        | none => exact un.keep b o e q (by intro z; exact absurd (show b ∈ ([] : List Addr) from z) (by simp)) (by simp)
        | some u =>
          rcases hO b with z | ⟨ob, xs, z⟩
          · rw [q] at z; cases z
          · have z2 := un.frzs b ob _ z
            obtain ⟨e1, _⟩ := hok b _ z
            obtain ⟨e2, _⟩ := hok' b _ z2
            rw [e] at e1; cases e1
            exact e2
  cases hk : K.lookup a with
  | some o =>
    -- the script is one of the module's own objects
    have e := KX a o hk
    rw [ha] at e
    cases e
    refine core (fun _ => none) (fun _ => .inl rfl) (.inr ⟨_, vs.toArray, _, hk, rfl, rfl, rfl, by rw [List.size_toArray, lenV]; exact hl, by simpa using rv⟩) (fun b u z => by have z' : (none : Option HO) = some u := z; cases z') (fun b z => absurd rfl z) fun z => absurd rfl z
  | none =>
    refine core (fun b => if b = a then some (.frz { cls := .type "list", data := .seq vs.toArray } (.lst (ns.map V.int))) else none) (fun b => ?_) (.inl (.inr ⟨{ cls := .type "list", data := .seq vs.toArray }, if_pos rfl⟩)) (fun b u z => ?_) (fun b z => ?_) fun _ => hk
    · by_cases hb : b = a
      · exact .inr ⟨_, _, if_pos hb⟩
      · exact .inl (if_neg hb)
    · by_cases hb : b = a
      · have z' := (if_pos hb).symm.trans z
        cases z'
        subst hb
        exact ⟨ha, by rw [List.length_map]; exact hl, vs, _, rv, ha⟩
      · have z' := (if_neg hb).symm.trans z
        cases z'
    · by_cases hb : b = a
      · exact hb
      · exact absurd (if_neg hb) z
end L2

namespace L2
open PySem PySem.Spec PyProof.Rows

abbrev KOf {K : PySem.W.Frag} {h : Heap} (_ : K.In h) : PySem.W.Frag := K

/-- the goal that k_head leaves (case hc), from the law's promise. F gives the function object fd (K's own) once, then the promise over every base -/
theorem walk_of {l : PySem.W.OpenLaw} {n k : Nat} {q : Program} {loose : List Str} {XP : (Str → Option Value) → Heap → Prop} {YP : World → Heap → Prop} {d : DefRec} {K : Params → PySem.W.Frag} {CX : World → CXT} {sp : World → Sp} {x : Str}
    (hn : l.most = some n) (hn2 : n ≤ sizeLine) (hdf : d.params.defaults = []) (hr : Room k callerA)
    (hY : ∀ (w : World) (h : Heap), YP w h → (K w.params).In h)
    (F : ∀ (w : World) (mg : Str → Option Value) (fa : Addr) (h : Heap), (K w.params).In h → h.Ns mainGlobals mg → mg d.name = some (.ref fa) →
      ∃ fd : FuncData, (∀ (s : Shared) (u : Value), BindsTo s fd ⟨[u], []⟩ [(x, u)]) ∧
        ∀ base : Heap, (K w.params).In base → base.Ns mainGlobals mg → FnOk l.prog w (K w.params) mg base (CX w) k fa fd [x] (sp w))
    (hsp : ∀ (w : World) (H : Hp) (a : Addr) (ns : List Int), ns.length ≤ n → Only H → SqL (K w.params) H a (ns.map V.int) → sp w [.ref a] H (fun v _ => v = .bl true) fun _ _ _ => False)
    (hCX : ∀ (w : World) (H : Hp) (s : Shared) (e : Value) (s' : Shared), CX w [] H s (fun _ _ _ => False) e s' → False) :
    PySem.W.WalkO q loose XP YP l.row.toRowW d [] (fun f vs => PySem.call f vs) := by
  refine Att.attach_call hn hdf fun w s₀ s₁ mg mb fa o pm cd doc a vs ns G Y ho hd hcd hmg hobj hints hlen hg => ?_
  have KX := hY w _ Y
  obtain ⟨fd, hb, hF⟩ := F w mg fa _ KX G.T.g hmg
  exact law_call KX G.T.g G.T.b G.T.builtins G.T.nolimit hg hobj hints (Nat.le_trans hlen hn2) hr hF hb (fun H hO hS => hsp w H a ns hlen hO hS) fun H e s' => hCX w H s₁ e s'
/-- the same where the promise hangs on the written part alone: (sp := My.sp_law), no hole under a binder -/
theorem walk_ofK {l : PySem.W.OpenLaw} {n k : Nat} {q : Program} {loose : List Str} {XP : (Str → Option Value) → Heap → Prop} {YP : World → Heap → Prop} {d : DefRec} {K : Params → PySem.W.Frag} {CX : CXT} {sp : PySem.W.Frag → Sp} {x : Str}
    (hn : l.most = some n) (hn2 : n ≤ sizeLine) (hdf : d.params.defaults = []) (hr : Room k callerA)
    (hY : ∀ (w : World) (h : Heap), YP w h → (K w.params).In h)
    (F : ∀ (w : World) (mg : Str → Option Value) (fa : Addr) (h : Heap), (K w.params).In h → h.Ns mainGlobals mg → mg d.name = some (.ref fa) →
      ∃ fd : FuncData, (∀ (s : Shared) (u : Value), BindsTo s fd ⟨[u], []⟩ [(x, u)]) ∧
        ∀ base : Heap, (K w.params).In base → base.Ns mainGlobals mg → FnOk l.prog w (K w.params) mg base CX k fa fd [x] (sp (K w.params)))
    (hsp : ∀ (K : PySem.W.Frag) (H : Hp) (a : Addr) (ns : List Int), ns.length ≤ n → Only H → SqL K H a (ns.map V.int) → sp K [.ref a] H (fun v _ => v = .bl true) fun _ _ _ => False)
    (hCX : ∀ (H : Hp) (s : Shared) (e : Value) (s' : Shared), CX [] H s (fun _ _ _ => False) e s' → False) :
    PySem.W.WalkO q loose XP YP l.row.toRowW d [] (fun f vs => PySem.call f vs) :=
  walk_of (K := K) (CX := fun _ => CX) (sp := fun w => sp (K w.params)) hn hn2 hdf hr hY F (fun w H a ns h1 h2 h3 => hsp (K w.params) H a ns h1 h2 h3) fun _ H s e s' => hCX H s e s'
end L2

/- THE LAST THEOREM (shape; LID, My.* are yours):
   My.Adr: a structure of the addresses that your layer names (classes, functions); My.Txt K t: a structure (Prop) of the equations over K;
   My.txt_mk : {K} {implicit addresses ..} (e1 : nsIn K mainGlobals "law" = some (some (.ref f))) (e2 : K.lookup f = some ⟨oc, od, .func (fnOf "law" "law" params body scope dV kV doc pm an cdv ct), sl⟩) (e3 : codeIn K cdv "law" = true) .. : ∃ t, My.Txt K t

set_option maxRecDepth 100000 in
set_option maxHeartbeats 0 in
theorem PySem.Challenge.cw_LID_holds : PySem.Challenge.rw_LID.Holds := by
  w_on; o_law; k_head; (case hw => w_witness2)
  k_fill
  refine L2.walk_of (l := PySem.Challenge.rw_LID) (n := 63) (k := 40) (x := "script") (CX := fun w => ..) (sp := fun _ => My.sp_law) rfl (by decide) rfl ⟨rfl, by decide, by decide⟩ (fun w h Y => PySem.W.kIn_of Y) ?F ?S ?C
  case F =>
    intro w mg fa h KX G hmg
    have T : ∃ t, My.Txt (L2.KOf KX) t := by
      dsimp only [L2.KOf]                          -- K must stand as «<heap const> w.params» for k_is
      refine' My.txt_mk ?e1 ?e2 ?e3 ..
      (case e1 => PySem.W.k_is)                    -- in the order: a name -> its address -> its object -> its parts
      (case e2 => PySem.W.k_is)
      ..
    obtain ⟨t, T⟩ := T
    have e0 := hmg.symm.trans (PySem.W.mg_of KX G T.law)
    cases e0                                       -- fa is the law's own address
    exact ⟨_, fun s u => .of_eq rfl, fun base kb nb => My.law_fn T kb nb⟩     -- if «.of_eq rfl» comes too early: refine' ⟨_, ?b, fun base kb nb => My.law_fn T kb nb⟩; exact fun s u => .of_eq rfl
  case S => exact fun w H a ns hl hO hS => ..
  case C => exact ..
(the tactic k_is has no namespace: write k_is) -/

/-! SHORT WORDS over the layer: a def of the text, its body, what a loop and a test want. -/
namespace L2
open PySem PySem.Spec PyProof.Rows

/-! ### the text by places -/
/-- the j-th statement of a class's body -/
def inClass (s : Stmt) (j : Nat) : Stmt := match s with
  | .ClassDef _ _ _ body _ _ _ _ _ _ _ => body.getD j (.Pass ⟨0, 0, 0, 0⟩)
  | _ => .Pass ⟨0, 0, 0, 0⟩
def defArgs (s : Stmt) : Arguments := match s with
  | .FunctionDef _ a _ _ _ _ _ _ _ _ => a
  | _ => { posonlyargs := [], args := [], vararg := none, kwonlyargs := [], kw_defaults := [], kwarg := none, defaults := [] }
def defBody (s : Stmt) : List Stmt := match s with
  | .FunctionDef _ _ b _ _ _ _ _ _ _ => b
  | _ => []
def defScope (s : Stmt) : Scope := match s with
  | .FunctionDef _ _ _ _ _ _ sc _ _ _ => sc
  | _ => { kind := .function, names := [], isGenerator := false, isCoroutine := false }

/-! ### no exception leaves a def -/
abbrev CX0 : CXT := fun _ _ _ _ _ _ => False
abbrev E0 : XK := fun _ _ _ => False
theorem pass0 {X : Cx} : Passes CX0 X E0 := fun _ _ _ _ _ _ _ h => h.elim

/-! ### a def (or method) of the text as it stands behind the top -/
structure Fun (K : PySem.W.Frag) (x qual : Str) (st : Stmt) (f : Addr) (fd : FuncData) : Prop where
  ex : ∃ (oc : Value) (od : Option Addr) (kV doc pm : Value) (an : Option Addr) (cdv ct : Value) (osl : Array (Option Value)),
    fd = PySem.W.fnOf x qual (defArgs st) (defBody st) (defScope st) .none kV doc pm an cdv ct ∧ K.lookup f = some ⟨oc, od, .func fd, osl⟩ ∧ PySem.W.codeIn K cdv qual = true
  kp : PySem.W.keepIn K (.ref f) = true
section
variable {P : Program} {w : World} {K : PySem.W.Frag} {mg : Str → Option Value} {base : Heap}
/-- THE RULE for a def: its body as a term of rules, and the reading of that term -/
theorem Fun.ok {x qual : Str} {st : Stmt} {f : Addr} {fd : FuncData} {N ps : List Str} {k : Nat} {sp : Sp} (F : Fun K x qual st f fd) (S : FnScope N ps (defScope st)) (len : ∀ vs H Q E, sp vs H Q E → vs.length = ps.length)
    (hbody : ∀ (cdv : Value) (A : Around) (outer : List Env) (s : Shared) (H : Hp) (vs : List V) (Q : VK) (E : XK), Room k (A.deeper (envOfC qual (defScope st) s.heap.objs.size f cdv)) → sp vs H Q E →
      ∃ t, PSs (cxOf CX0 P w K mg base N qual (defScope st) f cdv A outer s H E).nox (defBody st) t ∧ t { nx := fun _ H' => Q .non H', rt := Q } (start N vs) H) : FnOk P w K mg base CX0 (k + 1) f fd ps sp := by
  obtain ⟨oc, od, kV, doc, pm, an, cdv, ct, osl, rfl, lk, hcd⟩ := F.ex
  refine fn_of lk hcd S len fun A outer s H vs Q E hr hsp => ?_
  obtain ⟨t, h, q⟩ := hbody cdv A outer s H vs Q E hr hsp
  exact ⟨t, h.nox, q⟩
/-- how its arguments bind (no defaults): h is «fun _ _ _ _ _ _ us hl => match us, hl with | [_, _], _ => rfl», one _ a parameter -/
theorem Fun.binds {x qual : Str} {st : Stmt} {f : Addr} {fd : FuncData} {ps : List Str} (F : Fun K x qual st f fd)
    (h : ∀ (kV doc pm : Value) (an : Option Addr) (cdv ct : Value) (us : List Value), us.length = ps.length → bindArgs (PySem.W.fnOf x qual (defArgs st) (defBody st) (defScope st) .none kV doc pm an cdv ct) ⟨us, []⟩ = pure (ps.zip us)) : Binds K fd ps [] := by
  obtain ⟨oc, od, kV, doc, pm, an, cdv, ct, osl, rfl, lk, hcd⟩ := F.ex
  exact .all (h kV doc pm an cdv ct)
theorem fun_mk {x qual : Str} {st : Stmt} {f : Addr} {oc : Value} {od an : Option Addr} {osl : Array (Option Value)} {kV doc pm cdv ct : Value} (l : K.lookup f = some ⟨oc, od, .func (PySem.W.fnOf x qual (defArgs st) (defBody st) (defScope st) .none kV doc pm an cdv ct), osl⟩)
    (c : PySem.W.codeIn K cdv qual = true) (k : PySem.W.keepIn K (.ref f) = true) : Fun K x qual st f (PySem.W.fnOf x qual (defArgs st) (defBody st) (defScope st) .none kV doc pm an cdv ct) := ⟨⟨oc, od, kV, doc, pm, an, cdv, ct, osl, rfl, l, c⟩, k⟩
end
theorem hu_of {A : Around} {k : Nat} (hr : Room k A) : A.units + 1 < cLine := Nat.lt_of_le_of_lt (Nat.add_le_add_left (by decide : 1 ≤ 64) _) hr.units
theorem small1000 {n : Nat} (h : n ≤ 1000) : n < sizeLine := Nat.lt_of_le_of_lt h (by decide)

/-! ### expressions in short: the name that stands in the i-th slot -/
section
variable {X : Cx}
theorem pv (i : Nat) {x : Str} {pos : Pos} (hN : X.N[i]? = some x := by rfl) (hv : Vis X.env.scope x := by first | exact Or.inl rfl | exact Or.inr (Or.inl rfl) | exact Or.inr (Or.inr rfl)) (hd : (x == ("__debug__" : Str)) = false := by decide)
    (hcd : (x == ("__classdict__" : Str)) = false := by decide) : PE X (.Name x pos) (tVar i) := pe_var hN hv hd hcd
end

/-! ### tests -/
theorem iteF {A B : Prop} (h : B) : if false = true then A else B := by
  rw [if_neg Bool.false_ne_true]
  exact h
theorem iteT {A B : Prop} (h : A) : if true = true then A else B := by
  rw [if_pos rfl]
  exact h
theorem ite2 {c A B : Prop} [Decidable c] (h1 : c → A) (h2 : ¬ c → B) : if c then A else B := by
  by_cases h : c
  · rw [if_pos h]
    exact h1 h
  · rw [if_neg h]
    exact h2 h
theorem iteNS {c A B : Prop} [Decidable c] (hc : c) (h : B) : if (!decide c) = true then A else B := by
  rw [decide_eq_true hc]
  exact iteF h

/-! ### heaps -/
/-- all that was tracked is as it was -/
def Same (H H' : Hp) : Prop := ∀ b o, H b = some o → H' b = some o
theorem Same.refl (H : Hp) : Same H H := fun _ _ h => h
theorem Same.trans {H H1 H2 : Hp} (a : Same H H1) (b : Same H1 H2) : Same H H2 := fun c o h => b c o (a c o h)
theorem Same.free {H H' : Hp} (e : Same H H') {l : Addr} (h : H' l = Option.none) : H l = Option.none := by
  cases q : H l with
  | none => rfl
  | some o =>
    rw [e l o q] at h
    cases h
theorem Same.seq {K : PySem.W.Frag} {H H' : Hp} {a : Addr} {xs : List V} (e : Same H H') (h : SqL K H a xs) : SqL K H' a xs := by
  rcases h with (h | ⟨o, h⟩) | h
  · exact .inl (.inl (e _ _ h))
  · exact .inl (.inr ⟨o, e _ _ h⟩)
  · exact .inr h

end L2

set_option maxHeartbeats 0
lay_quick PySem.Challenge.pw_weighwalk_k05_sums_and_products_go_toget
namespace H05
open PySem PySem.W
noncomputable abbrev kh := @PySem.PyData.keyHash
noncomputable def topT (i : Nat) : Stmt := PySem.W.Fast.tw12559301932579607790.main.body.getD i (.Pass ⟨0, 0, 0, 0⟩)
noncomputable def s0 : Str := ⟨⟨[60, 109, 111, 100, 117, 108, 101, 62]⟩⟩
noncomputable def s1 : Str := ⟨⟨[47, 99, 108, 97, 105, 109, 47, 99, 117, 116, 46, 112, 121]⟩⟩
noncomputable def s2 : Str := ⟨⟨[95, 95, 109, 97, 105, 110, 95, 95]⟩⟩
noncomputable def s3 : Str := ⟨⟨[95, 95, 110, 97, 109, 101, 95, 95]⟩⟩
noncomputable def s4 : Str := ⟨⟨[119, 101, 105, 103, 104, 119, 97, 108, 107, 46, 101, 114, 114, 111, 114, 115]⟩⟩
noncomputable def s5 : Str := ⟨⟨[95, 95, 100, 111, 99, 95, 95]⟩⟩
noncomputable def s6 : Str := ⟨⟨[95, 95, 112, 97, 99, 107, 97, 103, 101, 95, 95]⟩⟩
noncomputable def s7 : Str := ⟨⟨[95, 95, 108, 111, 97, 100, 101, 114, 95, 95]⟩⟩
noncomputable def s8 : Str := ⟨⟨[95, 95, 115, 112, 101, 99, 95, 95]⟩⟩
noncomputable def s9 : Str := ⟨⟨[95, 95, 97, 110, 110, 111, 116, 97, 116, 105, 111, 110, 115, 95, 95]⟩⟩
noncomputable def s10 : Str := ⟨⟨[95, 95, 98, 117, 105, 108, 116, 105, 110, 115, 95, 95]⟩⟩
noncomputable def s11 : Str := ⟨⟨[95, 95, 102, 105, 108, 101, 95, 95]⟩⟩
noncomputable def s12 : Str := ⟨⟨[95, 95, 99, 97, 99, 104, 101, 100, 95, 95]⟩⟩
noncomputable def s13 : Str := ⟨⟨[95, 119, 97, 108, 108]⟩⟩
noncomputable def s14 : Str := ⟨⟨[87, 101, 105, 103, 104, 69, 114, 114, 111, 114]⟩⟩
noncomputable def s15 : Str := ⟨⟨[78, 111, 75, 105, 110, 100]⟩⟩
noncomputable def s16 : Str := ⟨⟨[78, 111, 87, 101, 105, 103, 104, 116]⟩⟩
noncomputable def s17 : Str := ⟨⟨[107]⟩⟩
noncomputable def s18 : Str := ⟨⟨[95, 95, 109, 111, 100, 117, 108, 101, 95, 95]⟩⟩
noncomputable def s19 : Str := ⟨⟨[95, 95, 113, 117, 97, 108, 110, 97, 109, 101, 95, 95]⟩⟩
noncomputable def s20 : Str := ⟨⟨[95, 95, 102, 105, 114, 115, 116, 108, 105, 110, 101, 110, 111, 95, 95]⟩⟩
noncomputable def s21 : Str := ⟨⟨[95, 95, 115, 116, 97, 116, 105, 99, 95, 97, 116, 116, 114, 105, 98, 117, 116, 101, 115, 95, 95]⟩⟩
noncomputable def s22 : Str := ⟨⟨[95, 95, 119, 101, 97, 107, 114, 101, 102, 95, 95]⟩⟩
noncomputable def s23 : Str := ⟨⟨[119, 101, 105, 103, 104, 119, 97, 108, 107, 46, 107, 105, 110, 100, 115]⟩⟩
noncomputable def s24 : Str := ⟨⟨[78, 111, 84, 101, 120, 116]⟩⟩
noncomputable def s25 : Str := ⟨⟨[105, 115, 95, 119, 104, 111, 108, 101]⟩⟩
noncomputable def s26 : Str := ⟨⟨[100, 105, 118, 105, 115, 111, 114]⟩⟩
noncomputable def s27 : Str := ⟨⟨[102, 114, 97, 99, 116, 105, 111, 110]⟩⟩
noncomputable def s28 : Str := ⟨⟨[105, 115, 95, 112, 114, 105, 109, 101]⟩⟩
noncomputable def s29 : Str := ⟨⟨[70, 73, 71, 85, 82, 69, 83]⟩⟩
noncomputable def s30 : Str := ⟨⟨[48, 49, 50, 51, 52, 53, 54, 55, 56, 57]⟩⟩
noncomputable def s31 : Str := ⟨⟨[77, 79, 83, 84, 95, 70, 73, 71, 85, 82, 69, 83]⟩⟩
noncomputable def s32 : Str := ⟨⟨[71, 82, 69, 65, 84, 69, 83, 84, 95, 80, 82, 73, 77, 69]⟩⟩
noncomputable def s33 : Str := ⟨⟨[105, 115, 95, 119, 114, 105, 116, 116, 101, 110]⟩⟩
noncomputable def s34 : Str := ⟨⟨[114, 101, 97, 100, 95, 119, 104, 111, 108, 101]⟩⟩
noncomputable def s35 : Str := ⟨⟨[110, 101, 101, 100, 95, 116, 101, 120, 116]⟩⟩
noncomputable def s36 : Str := ⟨⟨[75, 105, 110, 100]⟩⟩
noncomputable def s37 : Str := ⟨⟨[116, 104, 105, 110, 103]⟩⟩
noncomputable def s38 : Str := ⟨⟨[119, 101, 105, 103, 104, 119, 97, 108, 107, 46, 114, 97, 116, 105, 111, 115]⟩⟩
noncomputable def s39 : Str := ⟨⟨[111, 110, 101]⟩⟩
noncomputable def s40 : Str := ⟨⟨[111, 116, 104, 101, 114]⟩⟩
noncomputable def s41 : Str := ⟨⟨[103, 114, 101, 97, 116, 101, 115, 116]⟩⟩
noncomputable def s42 : Str := ⟨⟨[114, 101, 115, 116]⟩⟩
noncomputable def s43 : Str := ⟨⟨[108, 101, 102, 116]⟩⟩
noncomputable def s44 : Str := ⟨⟨[116, 111, 112]⟩⟩
noncomputable def s45 : Str := ⟨⟨[98, 111, 116, 116, 111, 109]⟩⟩
noncomputable def s46 : Str := ⟨⟨[115, 104, 97, 114, 101, 100]⟩⟩
noncomputable def s47 : Str := ⟨⟨[110, 117, 109, 98, 101, 114]⟩⟩
noncomputable def s48 : Str := ⟨⟨[102, 97, 99, 116, 111, 114]⟩⟩
noncomputable def s49 : Str := ⟨⟨[116, 101, 120, 116]⟩⟩
noncomputable def s50 : Str := ⟨⟨[95, 95, 100, 105, 99, 116, 95, 95]⟩⟩
noncomputable def s51 : Str := ⟨⟨[70, 105, 101, 108, 100]⟩⟩
noncomputable def s52 : Str := ⟨⟨[80, 105, 99, 107, 105, 110, 103]⟩⟩
noncomputable def s53 : Str := ⟨⟨[105, 115, 95, 102, 105, 101, 108, 100]⟩⟩
noncomputable def s54 : Str := ⟨⟨[112, 105, 99, 107, 115]⟩⟩
noncomputable def s55 : Str := ⟨⟨[115, 101, 108, 102]⟩⟩
noncomputable def s56 : Str := ⟨⟨[70, 105, 101, 108, 100, 46, 105, 115, 95, 102, 105, 101, 108, 100]⟩⟩
noncomputable def s57 : Str := ⟨⟨[70, 105, 101, 108, 100, 46, 112, 105, 99, 107, 115]⟩⟩
noncomputable def s58 : Str := ⟨⟨[109, 105, 110, 117, 115]⟩⟩
noncomputable def s59 : Str := ⟨⟨[105, 110, 118, 101, 114, 115, 101]⟩⟩
noncomputable def s60 : Str := ⟨⟨[80, 105, 99, 107, 105, 110, 103, 46, 105, 115, 95, 102, 105, 101, 108, 100]⟩⟩
noncomputable def s61 : Str := ⟨⟨[80, 105, 99, 107, 105, 110, 103, 46, 112, 105, 99, 107, 115]⟩⟩
noncomputable def s62 : Str := ⟨⟨[120]⟩⟩
noncomputable def s63 : Str := ⟨⟨[80, 105, 99, 107, 105, 110, 103, 46, 109, 105, 110, 117, 115]⟩⟩
noncomputable def s64 : Str := ⟨⟨[80, 105, 99, 107, 105, 110, 103, 46, 105, 110, 118, 101, 114, 115, 101]⟩⟩
noncomputable def s65 : Str := ⟨⟨[70, 114, 97, 99, 116, 105, 111, 110, 115]⟩⟩
noncomputable def s66 : Str := ⟨⟨[116, 111, 108, 100]⟩⟩
noncomputable def s67 : Str := ⟨⟨[110, 111, 117, 103, 104, 116]⟩⟩
noncomputable def s68 : Str := ⟨⟨[112, 108, 117, 115]⟩⟩
noncomputable def s69 : Str := ⟨⟨[116, 105, 109, 101, 115]⟩⟩
noncomputable def s70 : Str := ⟨⟨[105, 115, 95, 119, 101, 105, 103, 104, 116]⟩⟩
noncomputable def s71 : Str := ⟨⟨[115, 104, 111, 119, 110]⟩⟩
noncomputable def s72 : Str := ⟨⟨[114, 101, 97, 100]⟩⟩
noncomputable def s73 : Str := ⟨⟨[70, 114, 97, 99, 116, 105, 111, 110, 115, 46, 116, 111, 108, 100]⟩⟩
noncomputable def s74 : Str := ⟨⟨[70, 114, 97, 99, 116, 105, 111, 110, 115, 46, 110, 111, 117, 103, 104, 116]⟩⟩
noncomputable def s75 : Str := ⟨⟨[70, 114, 97, 99, 116, 105, 111, 110, 115, 46, 111, 110, 101]⟩⟩
noncomputable def s76 : Str := ⟨⟨[121]⟩⟩
noncomputable def s77 : Str := ⟨⟨[70, 114, 97, 99, 116, 105, 111, 110, 115, 46, 112, 108, 117, 115]⟩⟩
noncomputable def s78 : Str := ⟨⟨[70, 114, 97, 99, 116, 105, 111, 110, 115, 46, 116, 105, 109, 101, 115]⟩⟩
noncomputable def s79 : Str := ⟨⟨[70, 114, 97, 99, 116, 105, 111, 110, 115, 46, 109, 105, 110, 117, 115]⟩⟩
noncomputable def s80 : Str := ⟨⟨[70, 114, 97, 99, 116, 105, 111, 110, 115, 46, 105, 110, 118, 101, 114, 115, 101]⟩⟩
noncomputable def s81 : Str := ⟨⟨[70, 114, 97, 99, 116, 105, 111, 110, 115, 46, 105, 115, 95, 119, 101, 105, 103, 104, 116]⟩⟩
noncomputable def s82 : Str := ⟨⟨[70, 114, 97, 99, 116, 105, 111, 110, 115, 46, 115, 104, 111, 119, 110]⟩⟩
noncomputable def s83 : Str := ⟨⟨[112, 105, 101, 99, 101, 115]⟩⟩
noncomputable def s84 : Str := ⟨⟨[70, 114, 97, 99, 116, 105, 111, 110, 115, 46, 114, 101, 97, 100]⟩⟩
noncomputable def s85 : Str := ⟨⟨[82, 101, 115, 105, 100, 117, 101, 115]⟩⟩
noncomputable def s86 : Str := ⟨⟨[95, 95, 105, 110, 105, 116, 95, 95]⟩⟩
noncomputable def s87 : Str := ⟨⟨[112, 114, 105, 109, 101]⟩⟩
noncomputable def s88 : Str := ⟨⟨[82, 101, 115, 105, 100, 117, 101, 115, 46, 95, 95, 105, 110, 105, 116, 95, 95]⟩⟩
noncomputable def s89 : Str := ⟨⟨[82, 101, 115, 105, 100, 117, 101, 115, 46, 116, 111, 108, 100]⟩⟩
noncomputable def s90 : Str := ⟨⟨[82, 101, 115, 105, 100, 117, 101, 115, 46, 110, 111, 117, 103, 104, 116]⟩⟩
noncomputable def s91 : Str := ⟨⟨[82, 101, 115, 105, 100, 117, 101, 115, 46, 111, 110, 101]⟩⟩
noncomputable def s92 : Str := ⟨⟨[82, 101, 115, 105, 100, 117, 101, 115, 46, 112, 108, 117, 115]⟩⟩
noncomputable def s93 : Str := ⟨⟨[82, 101, 115, 105, 100, 117, 101, 115, 46, 116, 105, 109, 101, 115]⟩⟩
noncomputable def s94 : Str := ⟨⟨[82, 101, 115, 105, 100, 117, 101, 115, 46, 109, 105, 110, 117, 115]⟩⟩
noncomputable def s95 : Str := ⟨⟨[82, 101, 115, 105, 100, 117, 101, 115, 46, 105, 110, 118, 101, 114, 115, 101]⟩⟩
noncomputable def s96 : Str := ⟨⟨[82, 101, 115, 105, 100, 117, 101, 115, 46, 105, 115, 95, 119, 101, 105, 103, 104, 116]⟩⟩
noncomputable def s97 : Str := ⟨⟨[82, 101, 115, 105, 100, 117, 101, 115, 46, 115, 104, 111, 119, 110]⟩⟩
noncomputable def s98 : Str := ⟨⟨[82, 101, 115, 105, 100, 117, 101, 115, 46, 114, 101, 97, 100]⟩⟩
noncomputable def s99 : Str := ⟨⟨[67, 111, 115, 116, 115]⟩⟩
noncomputable def s100 : Str := ⟨⟨[67, 111, 115, 116, 115, 46, 116, 111, 108, 100]⟩⟩
noncomputable def s101 : Str := ⟨⟨[67, 111, 115, 116, 115, 46, 110, 111, 117, 103, 104, 116]⟩⟩
noncomputable def s102 : Str := ⟨⟨[67, 111, 115, 116, 115, 46, 111, 110, 101]⟩⟩
noncomputable def s103 : Str := ⟨⟨[67, 111, 115, 116, 115, 46, 112, 108, 117, 115]⟩⟩
noncomputable def s104 : Str := ⟨⟨[67, 111, 115, 116, 115, 46, 116, 105, 109, 101, 115]⟩⟩
noncomputable def s105 : Str := ⟨⟨[67, 111, 115, 116, 115, 46, 105, 115, 95, 119, 101, 105, 103, 104, 116]⟩⟩
noncomputable def s106 : Str := ⟨⟨[67, 111, 115, 116, 115, 46, 115, 104, 111, 119, 110]⟩⟩
noncomputable def s107 : Str := ⟨⟨[67, 111, 115, 116, 115, 46, 114, 101, 97, 100]⟩⟩
noncomputable def s108 : Str := ⟨⟨[108, 97, 119, 95, 119, 101, 105, 103, 104, 119, 97, 108, 107, 95, 107, 48, 53, 95, 115, 117, 109, 115, 95, 97, 110, 100, 95, 112, 114, 111, 100, 117, 99, 116, 115, 95, 103, 111, 95, 116, 111, 103, 101, 116]⟩⟩
noncomputable def s109 : Str := ⟨⟨[84, 114, 117, 116, 104, 115]⟩⟩
noncomputable def s110 : Str := ⟨⟨[95, 108, 97, 119, 95, 100, 105, 118, 105, 115, 111, 114]⟩⟩
noncomputable def s111 : Str := ⟨⟨[95, 108, 97, 119, 95, 108, 111, 119]⟩⟩
noncomputable def s112 : Str := ⟨⟨[95, 108, 97, 119, 95, 107, 105, 110, 100, 115]⟩⟩
noncomputable def s113 : Str := ⟨⟨[95, 108, 97, 119, 95, 119, 101, 105, 103, 104, 116]⟩⟩
noncomputable def s114 : Str := ⟨⟨[95, 108, 97, 119, 95, 116, 104, 114, 101, 101]⟩⟩
noncomputable def s115 : Str := ⟨⟨[95, 108, 97, 119, 95, 101, 100, 103, 101, 115]⟩⟩
noncomputable def s116 : Str := ⟨⟨[108, 97, 119]⟩⟩
noncomputable def s117 : Str := ⟨⟨[84, 114, 117, 116, 104, 115, 46, 116, 111, 108, 100]⟩⟩
noncomputable def s118 : Str := ⟨⟨[84, 114, 117, 116, 104, 115, 46, 110, 111, 117, 103, 104, 116]⟩⟩
noncomputable def s119 : Str := ⟨⟨[84, 114, 117, 116, 104, 115, 46, 111, 110, 101]⟩⟩
noncomputable def s120 : Str := ⟨⟨[84, 114, 117, 116, 104, 115, 46, 112, 108, 117, 115]⟩⟩
noncomputable def s121 : Str := ⟨⟨[84, 114, 117, 116, 104, 115, 46, 116, 105, 109, 101, 115]⟩⟩
noncomputable def s122 : Str := ⟨⟨[84, 114, 117, 116, 104, 115, 46, 105, 115, 95, 119, 101, 105, 103, 104, 116]⟩⟩
noncomputable def s123 : Str := ⟨⟨[84, 114, 117, 116, 104, 115, 46, 115, 104, 111, 119, 110]⟩⟩
noncomputable def s124 : Str := ⟨⟨[84, 114, 117, 116, 104, 115, 46, 114, 101, 97, 100]⟩⟩
noncomputable def s125 : Str := ⟨⟨[95, 108, 97, 119, 95, 111, 110, 101]⟩⟩
noncomputable def s126 : Str := ⟨⟨[95, 108, 97, 119, 95, 111, 116, 104, 101, 114]⟩⟩
noncomputable def s127 : Str := ⟨⟨[95, 108, 97, 119, 95, 116, 111, 112]⟩⟩
noncomputable def s128 : Str := ⟨⟨[95, 108, 97, 119, 95, 98, 111, 116, 116, 111, 109]⟩⟩
noncomputable def s129 : Str := ⟨⟨[95, 108, 97, 119, 95, 98, 121]⟩⟩
noncomputable def s130 : Str := ⟨⟨[95, 108, 97, 119, 95, 99, 101, 108, 108]⟩⟩
noncomputable def s131 : Str := ⟨⟨[95, 108, 97, 119, 95, 112, 114, 105, 109, 101]⟩⟩
noncomputable def s132 : Str := ⟨⟨[95, 108, 97, 119, 95, 119, 97, 121]⟩⟩
noncomputable def s133 : Str := ⟨⟨[95, 108, 97, 119, 95, 107, 105, 110, 100]⟩⟩
noncomputable def s134 : Str := ⟨⟨[95, 108, 97, 119, 95, 120]⟩⟩
noncomputable def s135 : Str := ⟨⟨[95, 108, 97, 119, 95, 121]⟩⟩
noncomputable def s136 : Str := ⟨⟨[95, 108, 97, 119, 95, 122]⟩⟩
noncomputable def s137 : Str := ⟨⟨[95, 108, 97, 119, 95, 110, 111, 117, 103, 104, 116]⟩⟩
noncomputable def s138 : Str := ⟨⟨[95, 108, 97, 119, 95, 115, 99, 114, 105, 112, 116]⟩⟩
noncomputable def s139 : Str := ⟨⟨[95, 108, 97, 119, 95, 99, 101, 108, 108, 115]⟩⟩
noncomputable def s140 : Str := ⟨⟨[95, 108, 97, 119, 95, 107, 105, 110, 100, 115, 95, 104, 101, 114, 101]⟩⟩
noncomputable def s141 : Str := ⟨⟨[95, 108, 97, 119, 95, 107]⟩⟩
noncomputable def o11a (P : Params) : Obj := ⟨(.type PySem.W.SL.s2766695959194262286x5), none, (.seq #[] 0), #[]⟩
noncomputable def o12a (P : Params) : Obj := ⟨.none, none, (.fields #[]), #[]⟩
noncomputable def o13a (P : Params) : Obj := ⟨(.type PySem.W.SL.s5856160107412720595x4), none, (.fields #[(.str s0 182), (.str s0 183), (.str s1 184), (.int 1 0), (.int 0 0), (.int 0 0), (.int 0 0), (.int 0 0), (.ref 11), (.bool false), (.int 181 0), (.ref 12), .none, .none, .none, .none, (.int 185 0), (.int 1 0), (.str s1 186)]), #[]⟩
noncomputable def o14a (P : Params) : Obj := ⟨(.type PySem.W.SL.s658472552662922059x5), none, .plain, #[(some (.ref 13)), (some (.ref 3)), (some (.ref 3)), none, (some (.str s2 164)), none, (some (.ref 0))]⟩
noncomputable def o3_0 (P : Params) : Obj := ⟨(.type PySem.W.SL.s14018661285674007319x4), none, (.dict #[⟨(kh P s3), (.str s3 165), (.str s4 194)⟩, ⟨(kh P s5), (.str s5 166), .none⟩, ⟨(kh P s6), (.str s6 167), .none⟩, ⟨(kh P s7), (.str s7 168), (.builtin PySem.W.SL.s7097527257260152453x26)⟩, ⟨(kh P s8), (.str s8 169), .none⟩, ⟨(kh P s9), (.str s9 170), (.ref 6)⟩, ⟨(kh P s10), (.str s10 171), (.ref 4)⟩, ⟨(kh P s11), (.str s11 173), (.str s1 172)⟩, ⟨(kh P s12), (.str s12 174), .none⟩, ⟨(kh P s13), (.str s13 193), (.ref 21)⟩, ⟨(kh P s14), (.str s14 213), (.ref 31)⟩, ⟨(kh P s15), (.str s15 229), (.ref 44)⟩, ⟨(kh P s16), (.str s16 245), (.ref 56)⟩] 13), #[]⟩
noncomputable def o12_0 (P : Params) : Obj := ⟨.none, none, (.fields #[(.int 1 0), (.int 0 0), (.ref 20), (.int 5 0), (.int 0 0), (.ref 27), (.int 7 0), (.int 0 0), (.ref 40), (.int 9 0), (.int 0 0), (.ref 52)]), #[]⟩
noncomputable def o15_0 (P : Params) : Obj := ⟨(.type PySem.W.SL.s2766695959194262286x5), none, (.seq #[] 0), #[]⟩
noncomputable def o16_0 (P : Params) : Obj := ⟨.none, none, (.fields #[]), #[]⟩
noncomputable def o17_0 (P : Params) : Obj := ⟨(.type PySem.W.SL.s2766695959194262286x5), none, (.seq #[(.str s17 190)] 0), #[]⟩
noncomputable def o18_0 (P : Params) : Obj := ⟨(.type PySem.W.SL.s2766695959194262286x5), none, (.seq #[] 0), #[]⟩
noncomputable def o19_0 (P : Params) : Obj := ⟨.none, none, (.func ⟨s13, s13, (L2.defArgs (topT 0)), (.stmts (L2.defBody (topT 0))), (L2.defScope (topT 0)), 0, [], .none, .none, .none, .none, none, .none, .none, 0⟩), #[]⟩
noncomputable def o20_0 (P : Params) : Obj := ⟨(.type PySem.W.SL.s5856160107412720595x4), none, (.fields #[(.str s13 187), (.str s13 188), (.str s1 189), (.int 1 0), (.int 1 0), (.int 0 0), (.int 0 0), (.int 3 0), (.ref 15), (.bool true), (.int 181 0), (.ref 16), .none, (.ref 17), (.ref 18), (.ref 19), (.int 191 0), (.int 1 0), (.str s1 192)]), #[]⟩
noncomputable def o21_0 (P : Params) : Obj := ⟨(.type PySem.W.SL.s7174869446012820540x8), none, (.func ⟨s13, s13, (L2.defArgs (topT 0)), (.stmts (L2.defBody (topT 0))), (L2.defScope (topT 0)), 3, [], .none, .none, .none, (.str s2 164), none, (.ref 20), .none, 0⟩), #[]⟩
noncomputable def o22_0 (P : Params) : Obj := ⟨(.type PySem.W.SL.s2766695959194262286x5), none, (.seq #[(.type PySem.W.SL.s6070975301684473832x10)] 0), #[]⟩
noncomputable def o23_0 (P : Params) : Obj := ⟨(.type PySem.W.SL.s11030030927630378310x26), none, (.fields #[(.builtin PySem.W.SL.s10062305145149207511x16), (.type PySem.W.SL.s17162191345867700912x4)]), #[]⟩
noncomputable def o24_0 (P : Params) : Obj := ⟨(.type PySem.W.SL.s14018661285674007319x4), none, (.dict #[⟨(kh P s18), (.str s18 203), (.str s4 194)⟩, ⟨(kh P s19), (.str s19 205), (.str s14 204)⟩, ⟨(kh P s20), (.str s20 207), (.int 5 206)⟩, ⟨(kh P s21), (.str s21 208), (.ref 29)⟩] 4), #[]⟩
noncomputable def o25_0 (P : Params) : Obj := ⟨(.type PySem.W.SL.s2766695959194262286x5), none, (.seq #[] 0), #[]⟩
noncomputable def o26_0 (P : Params) : Obj := ⟨.none, none, (.fields #[]), #[]⟩
noncomputable def o27_0 (P : Params) : Obj := ⟨(.type PySem.W.SL.s5856160107412720595x4), none, (.fields #[(.str s14 198), (.str s14 199), (.str s1 200), (.int 5 0), (.int 0 0), (.int 0 0), (.int 0 0), (.int 0 0), (.ref 25), (.bool false), (.int 181 0), (.ref 26), .none, .none, .none, .none, (.int 201 0), (.int 5 0), (.str s1 202)]), #[]⟩
noncomputable def o28_0 (P : Params) : Obj := ⟨(.type PySem.W.SL.s658472552662922059x5), none, .plain, #[(some (.ref 27)), (some (.ref 3)), (some (.ref 24)), none, (some (.str s4 194)), none, (some (.ref 0))]⟩
noncomputable def o29_0 (P : Params) : Obj := ⟨(.type PySem.W.SL.s2766695959194262286x5), none, (.seq #[] 0), #[]⟩
noncomputable def o30_0 (P : Params) : Obj := ⟨(.type PySem.W.SL.s14018661285674007319x4), none, (.dict #[⟨(kh P s18), (.str s18 203), (.str s4 194)⟩, ⟨(kh P s20), (.str s20 207), (.int 5 206)⟩, ⟨(kh P s21), (.str s21 208), (.ref 29)⟩, ⟨(kh P s22), (.str s22 210), (.ref 32)⟩, ⟨(kh P s5), (.str s5 211), .none⟩] 3), #[]⟩
noncomputable def o31_0 (P : Params) : Obj := ⟨(.type PySem.W.SL.s17162191345867700912x4), none, (.cls ⟨s14, [(.type PySem.W.SL.s6070975301684473832x10)], [(.ref 31), (.type PySem.W.SL.s6070975301684473832x10), (.type PySem.W.SL.s5946037652744460706x9), (.type PySem.W.SL.s4278001404047624695x13), (.type PySem.W.SL.s2742458400755230247x6)], 30, s14, true, [], [(.ref 44), (.ref 56)], false, none, false⟩), #[(some (.ref 22)), none, (some (.str s14 196)), (some (.str s14 204)), (some (.builtin PySem.W.SL.s4209523147560561109x18)), (some (.bool true))]⟩
noncomputable def o32_0 (P : Params) : Obj := ⟨(.type PySem.W.SL.s14755015743595814543x17), none, (.fields #[(.str s22 209), (.ref 31), (.builtin PySem.W.SL.s10220274742760427390x26), .none]), #[]⟩
noncomputable def o33_0 (P : Params) : Obj := ⟨(.type PySem.W.SL.s4290257624100764138x5), none, (.fields #[(.ref 31), (.ref 31), (.ref 31)]), #[]⟩
noncomputable def o34_0 (P : Params) : Obj := ⟨(.type PySem.W.SL.s11030030927630378310x26), none, (.fields #[(.builtin PySem.W.SL.s4860613602091757760x24), (.ref 31)]), #[]⟩
noncomputable def o35_0 (P : Params) : Obj := ⟨(.type PySem.W.SL.s2766695959194262286x5), none, (.seq #[(.ref 31)] 0), #[]⟩
noncomputable def o36_0 (P : Params) : Obj := ⟨(.type PySem.W.SL.s11030030927630378310x26), none, (.fields #[(.builtin PySem.W.SL.s10062305145149207511x16), (.type PySem.W.SL.s17162191345867700912x4)]), #[]⟩
noncomputable def o37_0 (P : Params) : Obj := ⟨(.type PySem.W.SL.s14018661285674007319x4), none, (.dict #[⟨(kh P s18), (.str s18 221), (.str s4 194)⟩, ⟨(kh P s19), (.str s19 223), (.str s15 222)⟩, ⟨(kh P s20), (.str s20 225), (.int 7 224)⟩, ⟨(kh P s21), (.str s21 226), (.ref 42)⟩] 4), #[]⟩
noncomputable def o38_0 (P : Params) : Obj := ⟨(.type PySem.W.SL.s2766695959194262286x5), none, (.seq #[] 0), #[]⟩
noncomputable def o39_0 (P : Params) : Obj := ⟨.none, none, (.fields #[]), #[]⟩
noncomputable def o40_0 (P : Params) : Obj := ⟨(.type PySem.W.SL.s5856160107412720595x4), none, (.fields #[(.str s15 216), (.str s15 217), (.str s1 218), (.int 7 0), (.int 0 0), (.int 0 0), (.int 0 0), (.int 0 0), (.ref 38), (.bool false), (.int 181 0), (.ref 39), .none, .none, .none, .none, (.int 219 0), (.int 7 0), (.str s1 220)]), #[]⟩
noncomputable def o41_0 (P : Params) : Obj := ⟨(.type PySem.W.SL.s658472552662922059x5), none, .plain, #[(some (.ref 40)), (some (.ref 3)), (some (.ref 37)), none, (some (.str s4 194)), none, (some (.ref 0))]⟩
noncomputable def o42_0 (P : Params) : Obj := ⟨(.type PySem.W.SL.s2766695959194262286x5), none, (.seq #[] 0), #[]⟩
noncomputable def o43_0 (P : Params) : Obj := ⟨(.type PySem.W.SL.s14018661285674007319x4), none, (.dict #[⟨(kh P s18), (.str s18 221), (.str s4 194)⟩, ⟨(kh P s20), (.str s20 225), (.int 7 224)⟩, ⟨(kh P s21), (.str s21 226), (.ref 42)⟩, ⟨(kh P s5), (.str s5 227), .none⟩] 2), #[]⟩
noncomputable def o44_0 (P : Params) : Obj := ⟨(.type PySem.W.SL.s17162191345867700912x4), none, (.cls ⟨s15, [(.ref 31)], [(.ref 44), (.ref 31), (.type PySem.W.SL.s6070975301684473832x10), (.type PySem.W.SL.s5946037652744460706x9), (.type PySem.W.SL.s4278001404047624695x13), (.type PySem.W.SL.s2742458400755230247x6)], 43, s15, true, [], [], false, none, false⟩), #[(some (.ref 35)), none, (some (.str s15 214)), (some (.str s15 222)), (some (.builtin PySem.W.SL.s4209523147560561109x18)), (some (.bool true))]⟩
noncomputable def o45_0 (P : Params) : Obj := ⟨(.type PySem.W.SL.s4290257624100764138x5), none, (.fields #[(.ref 44), (.ref 44), (.ref 44)]), #[]⟩
noncomputable def o46_0 (P : Params) : Obj := ⟨(.type PySem.W.SL.s11030030927630378310x26), none, (.fields #[(.builtin PySem.W.SL.s4860613602091757760x24), (.ref 44)]), #[]⟩
noncomputable def o47_0 (P : Params) : Obj := ⟨(.type PySem.W.SL.s2766695959194262286x5), none, (.seq #[(.ref 31)] 0), #[]⟩
noncomputable def o48_0 (P : Params) : Obj := ⟨(.type PySem.W.SL.s11030030927630378310x26), none, (.fields #[(.builtin PySem.W.SL.s10062305145149207511x16), (.type PySem.W.SL.s17162191345867700912x4)]), #[]⟩
noncomputable def o49_0 (P : Params) : Obj := ⟨(.type PySem.W.SL.s14018661285674007319x4), none, (.dict #[⟨(kh P s18), (.str s18 237), (.str s4 194)⟩, ⟨(kh P s19), (.str s19 239), (.str s16 238)⟩, ⟨(kh P s20), (.str s20 241), (.int 9 240)⟩, ⟨(kh P s21), (.str s21 242), (.ref 54)⟩] 4), #[]⟩
noncomputable def o50_0 (P : Params) : Obj := ⟨(.type PySem.W.SL.s2766695959194262286x5), none, (.seq #[] 0), #[]⟩
noncomputable def o51_0 (P : Params) : Obj := ⟨.none, none, (.fields #[]), #[]⟩
noncomputable def o52_0 (P : Params) : Obj := ⟨(.type PySem.W.SL.s5856160107412720595x4), none, (.fields #[(.str s16 232), (.str s16 233), (.str s1 234), (.int 9 0), (.int 0 0), (.int 0 0), (.int 0 0), (.int 0 0), (.ref 50), (.bool false), (.int 181 0), (.ref 51), .none, .none, .none, .none, (.int 235 0), (.int 9 0), (.str s1 236)]), #[]⟩
noncomputable def o53_0 (P : Params) : Obj := ⟨(.type PySem.W.SL.s658472552662922059x5), none, .plain, #[(some (.ref 52)), (some (.ref 3)), (some (.ref 49)), none, (some (.str s4 194)), none, (some (.ref 0))]⟩
noncomputable def o54_0 (P : Params) : Obj := ⟨(.type PySem.W.SL.s2766695959194262286x5), none, (.seq #[] 0), #[]⟩
noncomputable def o55_0 (P : Params) : Obj := ⟨(.type PySem.W.SL.s14018661285674007319x4), none, (.dict #[⟨(kh P s18), (.str s18 237), (.str s4 194)⟩, ⟨(kh P s20), (.str s20 241), (.int 9 240)⟩, ⟨(kh P s21), (.str s21 242), (.ref 54)⟩, ⟨(kh P s5), (.str s5 243), .none⟩] 2), #[]⟩
noncomputable def o56_0 (P : Params) : Obj := ⟨(.type PySem.W.SL.s17162191345867700912x4), none, (.cls ⟨s16, [(.ref 31)], [(.ref 56), (.ref 31), (.type PySem.W.SL.s6070975301684473832x10), (.type PySem.W.SL.s5946037652744460706x9), (.type PySem.W.SL.s4278001404047624695x13), (.type PySem.W.SL.s2742458400755230247x6)], 55, s16, true, [], [], false, none, false⟩), #[(some (.ref 47)), none, (some (.str s16 230)), (some (.str s16 238)), (some (.builtin PySem.W.SL.s4209523147560561109x18)), (some (.bool true))]⟩
noncomputable def o57_0 (P : Params) : Obj := ⟨(.type PySem.W.SL.s4290257624100764138x5), none, (.fields #[(.ref 56), (.ref 56), (.ref 56)]), #[]⟩
noncomputable def o58_0 (P : Params) : Obj := ⟨(.type PySem.W.SL.s11030030927630378310x26), none, (.fields #[(.builtin PySem.W.SL.s4860613602091757760x24), (.ref 56)]), #[]⟩
noncomputable def o3_1 (P : Params) : Obj := ⟨(.type PySem.W.SL.s14018661285674007319x4), none, (.dict #[⟨(kh P s3), (.str s3 165), (.str s23 299)⟩, ⟨(kh P s5), (.str s5 166), .none⟩, ⟨(kh P s6), (.str s6 167), .none⟩, ⟨(kh P s7), (.str s7 168), (.builtin PySem.W.SL.s7097527257260152453x26)⟩, ⟨(kh P s8), (.str s8 169), .none⟩, ⟨(kh P s9), (.str s9 170), (.ref 6)⟩, ⟨(kh P s10), (.str s10 171), (.ref 4)⟩, ⟨(kh P s11), (.str s11 173), (.str s1 172)⟩, ⟨(kh P s12), (.str s12 174), .none⟩, ⟨(kh P s13), (.str s13 193), (.ref 21)⟩, ⟨(kh P s14), (.str s14 213), (.ref 31)⟩, ⟨(kh P s15), (.str s15 229), (.ref 44)⟩, ⟨(kh P s16), (.str s16 245), (.ref 56)⟩, ⟨(kh P s24), (.str s24 261), (.ref 68)⟩, ⟨(kh P s25), (.str s25 270), (.ref 77)⟩, ⟨(kh P s26), (.str s26 281), (.ref 84)⟩, ⟨(kh P s27), (.str s27 290), (.ref 91)⟩, ⟨(kh P s28), (.str s28 298), (.ref 98)⟩, ⟨(kh P s29), (.str s29 302), (.str s30 301)⟩, ⟨(kh P s31), (.str s31 304), (.int 30 303)⟩, ⟨(kh P s32), (.str s32 306), (.int 1000000 305)⟩, ⟨(kh P s33), (.str s33 312), (.ref 103)⟩, ⟨(kh P s34), (.str s34 319), (.ref 110)⟩, ⟨(kh P s35), (.str s35 326), (.ref 117)⟩, ⟨(kh P s36), (.str s36 346), (.ref 127)⟩] 25), #[]⟩
noncomputable def o12_1 (P : Params) : Obj := ⟨.none, none, (.fields #[(.int 1 0), (.int 0 0), (.ref 20), (.int 5 0), (.int 0 0), (.ref 27), (.int 7 0), (.int 0 0), (.ref 40), (.int 9 0), (.int 0 0), (.ref 52), (.int 11 0), (.int 0 0), (.ref 64), (.int 14 0), (.int 0 0), (.ref 76), (.int 16 0), (.int 0 0), (.ref 83), (.int 24 0), (.int 0 0), (.ref 90), (.int 33 0), (.int 0 0), (.ref 97), (.int 46 0), (.int 0 0), (.ref 102), (.int 55 0), (.int 0 0), (.ref 109), (.int 59 0), (.int 0 0), (.ref 116), (.int 62 0), (.int 0 0), (.ref 123)]), #[]⟩
noncomputable def o31_1 (P : Params) : Obj := ⟨(.type PySem.W.SL.s17162191345867700912x4), none, (.cls ⟨s14, [(.type PySem.W.SL.s6070975301684473832x10)], [(.ref 31), (.type PySem.W.SL.s6070975301684473832x10), (.type PySem.W.SL.s5946037652744460706x9), (.type PySem.W.SL.s4278001404047624695x13), (.type PySem.W.SL.s2742458400755230247x6)], 30, s14, true, [], [(.ref 44), (.ref 56), (.ref 68)], false, none, false⟩), #[(some (.ref 22)), none, (some (.str s14 196)), (some (.str s14 204)), (some (.builtin PySem.W.SL.s4209523147560561109x18)), (some (.bool true))]⟩
noncomputable def o59_1 (P : Params) : Obj := ⟨(.type PySem.W.SL.s2766695959194262286x5), none, (.seq #[(.ref 31)] 0), #[]⟩
noncomputable def o60_1 (P : Params) : Obj := ⟨(.type PySem.W.SL.s11030030927630378310x26), none, (.fields #[(.builtin PySem.W.SL.s10062305145149207511x16), (.type PySem.W.SL.s17162191345867700912x4)]), #[]⟩
noncomputable def o61_1 (P : Params) : Obj := ⟨(.type PySem.W.SL.s14018661285674007319x4), none, (.dict #[⟨(kh P s18), (.str s18 253), (.str s4 194)⟩, ⟨(kh P s19), (.str s19 255), (.str s24 254)⟩, ⟨(kh P s20), (.str s20 257), (.int 11 256)⟩, ⟨(kh P s21), (.str s21 258), (.ref 66)⟩] 4), #[]⟩
noncomputable def o62_1 (P : Params) : Obj := ⟨(.type PySem.W.SL.s2766695959194262286x5), none, (.seq #[] 0), #[]⟩
noncomputable def o63_1 (P : Params) : Obj := ⟨.none, none, (.fields #[]), #[]⟩
noncomputable def o64_1 (P : Params) : Obj := ⟨(.type PySem.W.SL.s5856160107412720595x4), none, (.fields #[(.str s24 248), (.str s24 249), (.str s1 250), (.int 11 0), (.int 0 0), (.int 0 0), (.int 0 0), (.int 0 0), (.ref 62), (.bool false), (.int 181 0), (.ref 63), .none, .none, .none, .none, (.int 251 0), (.int 11 0), (.str s1 252)]), #[]⟩
noncomputable def o65_1 (P : Params) : Obj := ⟨(.type PySem.W.SL.s658472552662922059x5), none, .plain, #[(some (.ref 64)), (some (.ref 3)), (some (.ref 61)), none, (some (.str s4 194)), none, (some (.ref 0))]⟩
noncomputable def o66_1 (P : Params) : Obj := ⟨(.type PySem.W.SL.s2766695959194262286x5), none, (.seq #[] 0), #[]⟩
noncomputable def o67_1 (P : Params) : Obj := ⟨(.type PySem.W.SL.s14018661285674007319x4), none, (.dict #[⟨(kh P s18), (.str s18 253), (.str s4 194)⟩, ⟨(kh P s20), (.str s20 257), (.int 11 256)⟩, ⟨(kh P s21), (.str s21 258), (.ref 66)⟩, ⟨(kh P s5), (.str s5 259), .none⟩] 2), #[]⟩
noncomputable def o68_1 (P : Params) : Obj := ⟨(.type PySem.W.SL.s17162191345867700912x4), none, (.cls ⟨s24, [(.ref 31)], [(.ref 68), (.ref 31), (.type PySem.W.SL.s6070975301684473832x10), (.type PySem.W.SL.s5946037652744460706x9), (.type PySem.W.SL.s4278001404047624695x13), (.type PySem.W.SL.s2742458400755230247x6)], 67, s24, true, [], [], false, none, false⟩), #[(some (.ref 59)), none, (some (.str s24 246)), (some (.str s24 254)), (some (.builtin PySem.W.SL.s4209523147560561109x18)), (some (.bool true))]⟩
noncomputable def o69_1 (P : Params) : Obj := ⟨(.type PySem.W.SL.s4290257624100764138x5), none, (.fields #[(.ref 68), (.ref 68), (.ref 68)]), #[]⟩
noncomputable def o70_1 (P : Params) : Obj := ⟨(.type PySem.W.SL.s11030030927630378310x26), none, (.fields #[(.builtin PySem.W.SL.s4860613602091757760x24), (.ref 68)]), #[]⟩
noncomputable def o71_1 (P : Params) : Obj := ⟨(.type PySem.W.SL.s2766695959194262286x5), none, (.seq #[] 0), #[]⟩
noncomputable def o72_1 (P : Params) : Obj := ⟨.none, none, (.fields #[]), #[]⟩
noncomputable def o73_1 (P : Params) : Obj := ⟨(.type PySem.W.SL.s2766695959194262286x5), none, (.seq #[(.str s37 267)] 0), #[]⟩
noncomputable def o74_1 (P : Params) : Obj := ⟨(.type PySem.W.SL.s2766695959194262286x5), none, (.seq #[] 0), #[]⟩
noncomputable def o75_1 (P : Params) : Obj := ⟨.none, none, (.func ⟨s25, s25, (L2.defArgs (topT 7)), (.stmts (L2.defBody (topT 7))), (L2.defScope (topT 7)), 0, [], .none, .none, .none, .none, none, .none, .none, 0⟩), #[]⟩
noncomputable def o76_1 (P : Params) : Obj := ⟨(.type PySem.W.SL.s5856160107412720595x4), none, (.fields #[(.str s25 264), (.str s25 265), (.str s1 266), (.int 14 0), (.int 1 0), (.int 0 0), (.int 0 0), (.int 3 0), (.ref 71), (.bool true), (.int 181 0), (.ref 72), .none, (.ref 73), (.ref 74), (.ref 75), (.int 268 0), (.int 14 0), (.str s1 269)]), #[]⟩
noncomputable def o77_1 (P : Params) : Obj := ⟨(.type PySem.W.SL.s7174869446012820540x8), none, (.func ⟨s25, s25, (L2.defArgs (topT 7)), (.stmts (L2.defBody (topT 7))), (L2.defScope (topT 7)), 3, [], .none, .none, .none, (.str s38 262), none, (.ref 76), .none, 0⟩), #[]⟩
noncomputable def o78_1 (P : Params) : Obj := ⟨(.type PySem.W.SL.s2766695959194262286x5), none, (.seq #[] 0), #[]⟩
noncomputable def o79_1 (P : Params) : Obj := ⟨.none, none, (.fields #[]), #[]⟩
noncomputable def o80_1 (P : Params) : Obj := ⟨(.type PySem.W.SL.s2766695959194262286x5), none, (.seq #[(.str s39 274), (.str s40 275), (.str s41 276), (.str s42 277), (.str s43 278)] 0), #[]⟩
noncomputable def o81_1 (P : Params) : Obj := ⟨(.type PySem.W.SL.s2766695959194262286x5), none, (.seq #[] 0), #[]⟩
noncomputable def o82_1 (P : Params) : Obj := ⟨.none, none, (.func ⟨s26, s26, (L2.defArgs (topT 8)), (.stmts (L2.defBody (topT 8))), (L2.defScope (topT 8)), 0, [], .none, .none, .none, .none, none, .none, .none, 0⟩), #[]⟩
noncomputable def o83_1 (P : Params) : Obj := ⟨(.type PySem.W.SL.s5856160107412720595x4), none, (.fields #[(.str s26 271), (.str s26 272), (.str s1 273), (.int 16 0), (.int 2 0), (.int 0 0), (.int 0 0), (.int 3 0), (.ref 78), (.bool true), (.int 181 0), (.ref 79), .none, (.ref 80), (.ref 81), (.ref 82), (.int 279 0), (.int 16 0), (.str s1 280)]), #[]⟩
noncomputable def o84_1 (P : Params) : Obj := ⟨(.type PySem.W.SL.s7174869446012820540x8), none, (.func ⟨s26, s26, (L2.defArgs (topT 8)), (.stmts (L2.defBody (topT 8))), (L2.defScope (topT 8)), 3, [], .none, .none, .none, (.str s38 262), none, (.ref 83), .none, 0⟩), #[]⟩
noncomputable def o85_1 (P : Params) : Obj := ⟨(.type PySem.W.SL.s2766695959194262286x5), none, (.seq #[] 0), #[]⟩
noncomputable def o86_1 (P : Params) : Obj := ⟨.none, none, (.fields #[]), #[]⟩
noncomputable def o87_1 (P : Params) : Obj := ⟨(.type PySem.W.SL.s2766695959194262286x5), none, (.seq #[(.str s44 285), (.str s45 286), (.str s46 287)] 0), #[]⟩
noncomputable def o88_1 (P : Params) : Obj := ⟨(.type PySem.W.SL.s2766695959194262286x5), none, (.seq #[] 0), #[]⟩
noncomputable def o89_1 (P : Params) : Obj := ⟨.none, none, (.func ⟨s27, s27, (L2.defArgs (topT 9)), (.stmts (L2.defBody (topT 9))), (L2.defScope (topT 9)), 0, [], .none, .none, .none, .none, none, .none, .none, 0⟩), #[]⟩
noncomputable def o90_1 (P : Params) : Obj := ⟨(.type PySem.W.SL.s5856160107412720595x4), none, (.fields #[(.str s27 282), (.str s27 283), (.str s1 284), (.int 24 0), (.int 2 0), (.int 0 0), (.int 0 0), (.int 3 0), (.ref 85), (.bool true), (.int 181 0), (.ref 86), .none, (.ref 87), (.ref 88), (.ref 89), (.int 288 0), (.int 24 0), (.str s1 289)]), #[]⟩
noncomputable def o91_1 (P : Params) : Obj := ⟨(.type PySem.W.SL.s7174869446012820540x8), none, (.func ⟨s27, s27, (L2.defArgs (topT 9)), (.stmts (L2.defBody (topT 9))), (L2.defScope (topT 9)), 3, [], .none, .none, .none, (.str s38 262), none, (.ref 90), .none, 0⟩), #[]⟩
noncomputable def o92_1 (P : Params) : Obj := ⟨(.type PySem.W.SL.s2766695959194262286x5), none, (.seq #[] 0), #[]⟩
noncomputable def o93_1 (P : Params) : Obj := ⟨.none, none, (.fields #[]), #[]⟩
noncomputable def o94_1 (P : Params) : Obj := ⟨(.type PySem.W.SL.s2766695959194262286x5), none, (.seq #[(.str s47 294), (.str s48 295)] 0), #[]⟩
noncomputable def o95_1 (P : Params) : Obj := ⟨(.type PySem.W.SL.s2766695959194262286x5), none, (.seq #[] 0), #[]⟩
noncomputable def o96_1 (P : Params) : Obj := ⟨.none, none, (.func ⟨s28, s28, (L2.defArgs (topT 10)), (.stmts (L2.defBody (topT 10))), (L2.defScope (topT 10)), 0, [], .none, .none, .none, .none, none, .none, .none, 0⟩), #[]⟩
noncomputable def o97_1 (P : Params) : Obj := ⟨(.type PySem.W.SL.s5856160107412720595x4), none, (.fields #[(.str s28 291), (.str s28 292), (.str s1 293), (.int 33 0), (.int 1 0), (.int 0 0), (.int 0 0), (.int 3 0), (.ref 92), (.bool true), (.int 181 0), (.ref 93), .none, (.ref 94), (.ref 95), (.ref 96), (.int 296 0), (.int 33 0), (.str s1 297)]), #[]⟩
noncomputable def o98_1 (P : Params) : Obj := ⟨(.type PySem.W.SL.s7174869446012820540x8), none, (.func ⟨s28, s28, (L2.defArgs (topT 10)), (.stmts (L2.defBody (topT 10))), (L2.defScope (topT 10)), 3, [], .none, .none, .none, (.str s38 262), none, (.ref 97), .none, 0⟩), #[]⟩
noncomputable def o99_1 (P : Params) : Obj := ⟨(.type PySem.W.SL.s2766695959194262286x5), none, (.seq #[] 0), #[]⟩
noncomputable def o100_1 (P : Params) : Obj := ⟨.none, none, (.fields #[]), #[]⟩
noncomputable def o101_1 (P : Params) : Obj := ⟨.none, none, (.func ⟨s33, s33, (L2.defArgs (topT 15)), (.stmts (L2.defBody (topT 15))), (L2.defScope (topT 15)), 0, [], .none, .none, .none, .none, none, .none, .none, 0⟩), #[]⟩
noncomputable def o102_1 (P : Params) : Obj := ⟨(.type PySem.W.SL.s5856160107412720595x4), none, (.fields #[(.str s33 307), (.str s33 308), (.str s1 309), (.int 46 0), (.int 1 0), (.int 0 0), (.int 0 0), (.int 3 0), (.ref 99), (.bool true), (.int 181 0), (.ref 100), .none, .none, .none, (.ref 101), (.int 310 0), (.int 46 0), (.str s1 311)]), #[]⟩
noncomputable def o103_1 (P : Params) : Obj := ⟨(.type PySem.W.SL.s7174869446012820540x8), none, (.func ⟨s33, s33, (L2.defArgs (topT 15)), (.stmts (L2.defBody (topT 15))), (L2.defScope (topT 15)), 3, [], .none, .none, .none, (.str s23 299), none, (.ref 102), .none, 0⟩), #[]⟩
noncomputable def o104_1 (P : Params) : Obj := ⟨(.type PySem.W.SL.s2766695959194262286x5), none, (.seq #[] 0), #[]⟩
noncomputable def o105_1 (P : Params) : Obj := ⟨.none, none, (.fields #[]), #[]⟩
noncomputable def o106_1 (P : Params) : Obj := ⟨(.type PySem.W.SL.s2766695959194262286x5), none, (.seq #[(.str s49 316)] 0), #[]⟩
noncomputable def o107_1 (P : Params) : Obj := ⟨(.type PySem.W.SL.s2766695959194262286x5), none, (.seq #[] 0), #[]⟩
noncomputable def o108_1 (P : Params) : Obj := ⟨.none, none, (.func ⟨s34, s34, (L2.defArgs (topT 16)), (.stmts (L2.defBody (topT 16))), (L2.defScope (topT 16)), 0, [], .none, .none, .none, .none, none, .none, .none, 0⟩), #[]⟩
noncomputable def o109_1 (P : Params) : Obj := ⟨(.type PySem.W.SL.s5856160107412720595x4), none, (.fields #[(.str s34 313), (.str s34 314), (.str s1 315), (.int 55 0), (.int 1 0), (.int 0 0), (.int 0 0), (.int 3 0), (.ref 104), (.bool true), (.int 181 0), (.ref 105), .none, (.ref 106), (.ref 107), (.ref 108), (.int 317 0), (.int 55 0), (.str s1 318)]), #[]⟩
noncomputable def o110_1 (P : Params) : Obj := ⟨(.type PySem.W.SL.s7174869446012820540x8), none, (.func ⟨s34, s34, (L2.defArgs (topT 16)), (.stmts (L2.defBody (topT 16))), (L2.defScope (topT 16)), 3, [], .none, .none, .none, (.str s23 299), none, (.ref 109), .none, 0⟩), #[]⟩
noncomputable def o111_1 (P : Params) : Obj := ⟨(.type PySem.W.SL.s2766695959194262286x5), none, (.seq #[] 0), #[]⟩
noncomputable def o112_1 (P : Params) : Obj := ⟨.none, none, (.fields #[]), #[]⟩
noncomputable def o113_1 (P : Params) : Obj := ⟨(.type PySem.W.SL.s2766695959194262286x5), none, (.seq #[(.str s49 323)] 0), #[]⟩
noncomputable def o114_1 (P : Params) : Obj := ⟨(.type PySem.W.SL.s2766695959194262286x5), none, (.seq #[] 0), #[]⟩
noncomputable def o115_1 (P : Params) : Obj := ⟨.none, none, (.func ⟨s35, s35, (L2.defArgs (topT 17)), (.stmts (L2.defBody (topT 17))), (L2.defScope (topT 17)), 0, [], .none, .none, .none, .none, none, .none, .none, 0⟩), #[]⟩
noncomputable def o116_1 (P : Params) : Obj := ⟨(.type PySem.W.SL.s5856160107412720595x4), none, (.fields #[(.str s35 320), (.str s35 321), (.str s1 322), (.int 59 0), (.int 1 0), (.int 0 0), (.int 0 0), (.int 3 0), (.ref 111), (.bool true), (.int 181 0), (.ref 112), .none, (.ref 113), (.ref 114), (.ref 115), (.int 324 0), (.int 59 0), (.str s1 325)]), #[]⟩
noncomputable def o117_1 (P : Params) : Obj := ⟨(.type PySem.W.SL.s7174869446012820540x8), none, (.func ⟨s35, s35, (L2.defArgs (topT 17)), (.stmts (L2.defBody (topT 17))), (L2.defScope (topT 17)), 3, [], .none, .none, .none, (.str s23 299), none, (.ref 116), .none, 0⟩), #[]⟩
noncomputable def o118_1 (P : Params) : Obj := ⟨(.type PySem.W.SL.s2766695959194262286x5), none, (.seq #[] 0), #[]⟩
noncomputable def o119_1 (P : Params) : Obj := ⟨(.type PySem.W.SL.s11030030927630378310x26), none, (.fields #[(.builtin PySem.W.SL.s10062305145149207511x16), (.type PySem.W.SL.s17162191345867700912x4)]), #[]⟩
noncomputable def o120_1 (P : Params) : Obj := ⟨(.type PySem.W.SL.s14018661285674007319x4), none, (.dict #[⟨(kh P s18), (.str s18 334), (.str s23 299)⟩, ⟨(kh P s19), (.str s19 336), (.str s36 335)⟩, ⟨(kh P s20), (.str s20 338), (.int 62 337)⟩, ⟨(kh P s21), (.str s21 339), (.ref 125)⟩] 4), #[]⟩
noncomputable def o121_1 (P : Params) : Obj := ⟨(.type PySem.W.SL.s2766695959194262286x5), none, (.seq #[] 0), #[]⟩
noncomputable def o122_1 (P : Params) : Obj := ⟨.none, none, (.fields #[]), #[]⟩
noncomputable def o123_1 (P : Params) : Obj := ⟨(.type PySem.W.SL.s5856160107412720595x4), none, (.fields #[(.str s36 329), (.str s36 330), (.str s1 331), (.int 62 0), (.int 0 0), (.int 0 0), (.int 0 0), (.int 0 0), (.ref 121), (.bool false), (.int 181 0), (.ref 122), .none, .none, .none, .none, (.int 332 0), (.int 62 0), (.str s1 333)]), #[]⟩
noncomputable def o124_1 (P : Params) : Obj := ⟨(.type PySem.W.SL.s658472552662922059x5), none, .plain, #[(some (.ref 123)), (some (.ref 3)), (some (.ref 120)), none, (some (.str s23 299)), none, (some (.ref 0))]⟩
noncomputable def o125_1 (P : Params) : Obj := ⟨(.type PySem.W.SL.s2766695959194262286x5), none, (.seq #[] 0), #[]⟩
noncomputable def o126_1 (P : Params) : Obj := ⟨(.type PySem.W.SL.s14018661285674007319x4), none, (.dict #[⟨(kh P s18), (.str s18 334), (.str s23 299)⟩, ⟨(kh P s20), (.str s20 338), (.int 62 337)⟩, ⟨(kh P s21), (.str s21 339), (.ref 125)⟩, ⟨(kh P s50), (.str s50 341), (.ref 128)⟩, ⟨(kh P s22), (.str s22 343), (.ref 129)⟩, ⟨(kh P s5), (.str s5 344), .none⟩] 4), #[]⟩
noncomputable def o127_1 (P : Params) : Obj := ⟨(.type PySem.W.SL.s17162191345867700912x4), none, (.cls ⟨s36, [(.type PySem.W.SL.s2742458400755230247x6)], [(.ref 127), (.type PySem.W.SL.s2742458400755230247x6)], 126, s36, true, [], [], false, none, false⟩), #[none, none, (some (.str s36 327)), (some (.str s36 335)), (some (.builtin PySem.W.SL.s11443829558043349243x14)), (some (.bool true))]⟩
noncomputable def o128_1 (P : Params) : Obj := ⟨(.type PySem.W.SL.s14755015743595814543x17), none, (.fields #[(.str s50 340), (.ref 127), (.builtin PySem.W.SL.s6511155373996960695x17), (.builtin PySem.W.SL.s12411053484034534018x21)]), #[]⟩
noncomputable def o129_1 (P : Params) : Obj := ⟨(.type PySem.W.SL.s14755015743595814543x17), none, (.fields #[(.str s22 342), (.ref 127), (.builtin PySem.W.SL.s10220274742760427390x26), .none]), #[]⟩
noncomputable def o130_1 (P : Params) : Obj := ⟨(.type PySem.W.SL.s4290257624100764138x5), none, (.fields #[(.ref 127), (.ref 127), (.ref 127)]), #[]⟩
noncomputable def o131_1 (P : Params) : Obj := ⟨(.type PySem.W.SL.s11030030927630378310x26), none, (.fields #[(.builtin PySem.W.SL.s4860613602091757760x24), (.ref 127)]), #[]⟩
noncomputable def o3_2 (P : Params) : Obj := ⟨(.type PySem.W.SL.s14018661285674007319x4), none, (.dict #[⟨(kh P s3), (.str s3 165), (.str s23 299)⟩, ⟨(kh P s5), (.str s5 166), .none⟩, ⟨(kh P s6), (.str s6 167), .none⟩, ⟨(kh P s7), (.str s7 168), (.builtin PySem.W.SL.s7097527257260152453x26)⟩, ⟨(kh P s8), (.str s8 169), .none⟩, ⟨(kh P s9), (.str s9 170), (.ref 6)⟩, ⟨(kh P s10), (.str s10 171), (.ref 4)⟩, ⟨(kh P s11), (.str s11 173), (.str s1 172)⟩, ⟨(kh P s12), (.str s12 174), .none⟩, ⟨(kh P s13), (.str s13 193), (.ref 21)⟩, ⟨(kh P s14), (.str s14 213), (.ref 31)⟩, ⟨(kh P s15), (.str s15 229), (.ref 44)⟩, ⟨(kh P s16), (.str s16 245), (.ref 56)⟩, ⟨(kh P s24), (.str s24 261), (.ref 68)⟩, ⟨(kh P s25), (.str s25 270), (.ref 77)⟩, ⟨(kh P s26), (.str s26 281), (.ref 84)⟩, ⟨(kh P s27), (.str s27 290), (.ref 91)⟩, ⟨(kh P s28), (.str s28 298), (.ref 98)⟩, ⟨(kh P s29), (.str s29 302), (.str s30 301)⟩, ⟨(kh P s31), (.str s31 304), (.int 30 303)⟩, ⟨(kh P s32), (.str s32 306), (.int 1000000 305)⟩, ⟨(kh P s33), (.str s33 312), (.ref 103)⟩, ⟨(kh P s34), (.str s34 319), (.ref 110)⟩, ⟨(kh P s35), (.str s35 326), (.ref 117)⟩, ⟨(kh P s36), (.str s36 346), (.ref 127)⟩, ⟨(kh P s51), (.str s51 376), (.ref 155)⟩, ⟨(kh P s52), (.str s52 422), (.ref 195)⟩] 27), #[]⟩
noncomputable def o12_2 (P : Params) : Obj := ⟨.none, none, (.fields #[(.int 1 0), (.int 0 0), (.ref 20), (.int 5 0), (.int 0 0), (.ref 27), (.int 7 0), (.int 0 0), (.ref 40), (.int 9 0), (.int 0 0), (.ref 52), (.int 11 0), (.int 0 0), (.ref 64), (.int 14 0), (.int 0 0), (.ref 76), (.int 16 0), (.int 0 0), (.ref 83), (.int 24 0), (.int 0 0), (.ref 90), (.int 33 0), (.int 0 0), (.ref 97), (.int 46 0), (.int 0 0), (.ref 102), (.int 55 0), (.int 0 0), (.ref 109), (.int 59 0), (.int 0 0), (.ref 116), (.int 62 0), (.int 0 0), (.ref 123), (.int 64 0), (.int 0 0), (.ref 137), (.int 71 0), (.int 0 0), (.ref 163)]), #[]⟩
noncomputable def o127_2 (P : Params) : Obj := ⟨(.type PySem.W.SL.s17162191345867700912x4), none, (.cls ⟨s36, [(.type PySem.W.SL.s2742458400755230247x6)], [(.ref 127), (.type PySem.W.SL.s2742458400755230247x6)], 126, s36, true, [], [(.ref 155), (.ref 195)], false, none, false⟩), #[none, none, (some (.str s36 327)), (some (.str s36 335)), (some (.builtin PySem.W.SL.s11443829558043349243x14)), (some (.bool true))]⟩
noncomputable def o132_2 (P : Params) : Obj := ⟨(.type PySem.W.SL.s2766695959194262286x5), none, (.seq #[(.ref 127)] 0), #[]⟩
noncomputable def o133_2 (P : Params) : Obj := ⟨(.type PySem.W.SL.s11030030927630378310x26), none, (.fields #[(.builtin PySem.W.SL.s10062305145149207511x16), (.type PySem.W.SL.s17162191345867700912x4)]), #[]⟩
noncomputable def o134_2 (P : Params) : Obj := ⟨(.type PySem.W.SL.s14018661285674007319x4), none, (.dict #[⟨(kh P s18), (.str s18 354), (.str s23 299)⟩, ⟨(kh P s19), (.str s19 356), (.str s51 355)⟩, ⟨(kh P s20), (.str s20 358), (.int 64 357)⟩, ⟨(kh P s53), (.str s53 365), (.ref 145)⟩, ⟨(kh P s54), (.str s54 372), (.ref 152)⟩, ⟨(kh P s21), (.str s21 373), (.ref 153)⟩] 6), #[]⟩
noncomputable def o135_2 (P : Params) : Obj := ⟨(.type PySem.W.SL.s2766695959194262286x5), none, (.seq #[] 0), #[]⟩
noncomputable def o136_2 (P : Params) : Obj := ⟨.none, none, (.fields #[(.int 66 0), (.int 4 0), (.ref 144), (.int 69 0), (.int 4 0), (.ref 151)]), #[]⟩
noncomputable def o137_2 (P : Params) : Obj := ⟨(.type PySem.W.SL.s5856160107412720595x4), none, (.fields #[(.str s51 349), (.str s51 350), (.str s1 351), (.int 64 0), (.int 0 0), (.int 0 0), (.int 0 0), (.int 0 0), (.ref 135), (.bool false), (.int 181 0), (.ref 136), .none, .none, .none, .none, (.int 352 0), (.int 64 0), (.str s1 353)]), #[]⟩
noncomputable def o138_2 (P : Params) : Obj := ⟨(.type PySem.W.SL.s658472552662922059x5), none, .plain, #[(some (.ref 137)), (some (.ref 3)), (some (.ref 134)), none, (some (.str s23 299)), none, (some (.ref 0))]⟩
noncomputable def o139_2 (P : Params) : Obj := ⟨(.type PySem.W.SL.s2766695959194262286x5), none, (.seq #[] 0), #[]⟩
noncomputable def o140_2 (P : Params) : Obj := ⟨.none, none, (.fields #[]), #[]⟩
noncomputable def o141_2 (P : Params) : Obj := ⟨(.type PySem.W.SL.s2766695959194262286x5), none, (.seq #[(.str s55 362)] 0), #[]⟩
noncomputable def o142_2 (P : Params) : Obj := ⟨(.type PySem.W.SL.s2766695959194262286x5), none, (.seq #[] 0), #[]⟩
noncomputable def o143_2 (P : Params) : Obj := ⟨.none, none, (.func ⟨s53, s56, (L2.defArgs (L2.inClass (topT 19) 0)), (.stmts (L2.defBody (L2.inClass (topT 19) 0))), (L2.defScope (L2.inClass (topT 19) 0)), 0, [], .none, .none, .none, .none, none, .none, .none, 0⟩), #[]⟩
noncomputable def o144_2 (P : Params) : Obj := ⟨(.type PySem.W.SL.s5856160107412720595x4), none, (.fields #[(.str s53 359), (.str s56 360), (.str s1 361), (.int 66 0), (.int 1 0), (.int 0 0), (.int 0 0), (.int 3 0), (.ref 139), (.bool true), (.int 181 0), (.ref 140), .none, (.ref 141), (.ref 142), (.ref 143), (.int 363 0), (.int 66 0), (.str s1 364)]), #[]⟩
noncomputable def o145_2 (P : Params) : Obj := ⟨(.type PySem.W.SL.s7174869446012820540x8), none, (.func ⟨s53, s56, (L2.defArgs (L2.inClass (topT 19) 0)), (.stmts (L2.defBody (L2.inClass (topT 19) 0))), (L2.defScope (L2.inClass (topT 19) 0)), 3, [], .none, .none, .none, (.str s23 299), none, (.ref 144), .none, 0⟩), #[]⟩
noncomputable def o146_2 (P : Params) : Obj := ⟨(.type PySem.W.SL.s2766695959194262286x5), none, (.seq #[] 0), #[]⟩
noncomputable def o147_2 (P : Params) : Obj := ⟨.none, none, (.fields #[]), #[]⟩
noncomputable def o148_2 (P : Params) : Obj := ⟨(.type PySem.W.SL.s2766695959194262286x5), none, (.seq #[(.str s55 369)] 0), #[]⟩
noncomputable def o149_2 (P : Params) : Obj := ⟨(.type PySem.W.SL.s2766695959194262286x5), none, (.seq #[] 0), #[]⟩
noncomputable def o150_2 (P : Params) : Obj := ⟨.none, none, (.func ⟨s54, s57, (L2.defArgs (L2.inClass (topT 19) 1)), (.stmts (L2.defBody (L2.inClass (topT 19) 1))), (L2.defScope (L2.inClass (topT 19) 1)), 0, [], .none, .none, .none, .none, none, .none, .none, 0⟩), #[]⟩
noncomputable def o151_2 (P : Params) : Obj := ⟨(.type PySem.W.SL.s5856160107412720595x4), none, (.fields #[(.str s54 366), (.str s57 367), (.str s1 368), (.int 69 0), (.int 1 0), (.int 0 0), (.int 0 0), (.int 3 0), (.ref 146), (.bool true), (.int 181 0), (.ref 147), .none, (.ref 148), (.ref 149), (.ref 150), (.int 370 0), (.int 69 0), (.str s1 371)]), #[]⟩
noncomputable def o152_2 (P : Params) : Obj := ⟨(.type PySem.W.SL.s7174869446012820540x8), none, (.func ⟨s54, s57, (L2.defArgs (L2.inClass (topT 19) 1)), (.stmts (L2.defBody (L2.inClass (topT 19) 1))), (L2.defScope (L2.inClass (topT 19) 1)), 3, [], .none, .none, .none, (.str s23 299), none, (.ref 151), .none, 0⟩), #[]⟩
noncomputable def o153_2 (P : Params) : Obj := ⟨(.type PySem.W.SL.s2766695959194262286x5), none, (.seq #[] 0), #[]⟩
noncomputable def o154_2 (P : Params) : Obj := ⟨(.type PySem.W.SL.s14018661285674007319x4), none, (.dict #[⟨(kh P s18), (.str s18 354), (.str s23 299)⟩, ⟨(kh P s20), (.str s20 358), (.int 64 357)⟩, ⟨(kh P s53), (.str s53 365), (.ref 145)⟩, ⟨(kh P s54), (.str s54 372), (.ref 152)⟩, ⟨(kh P s21), (.str s21 373), (.ref 153)⟩, ⟨(kh P s5), (.str s5 374), .none⟩] 2), #[]⟩
noncomputable def o155_2 (P : Params) : Obj := ⟨(.type PySem.W.SL.s17162191345867700912x4), none, (.cls ⟨s51, [(.ref 127)], [(.ref 155), (.ref 127), (.type PySem.W.SL.s2742458400755230247x6)], 154, s51, true, [], [], false, none, false⟩), #[(some (.ref 132)), none, (some (.str s51 347)), (some (.str s51 355)), (some (.builtin PySem.W.SL.s11443829558043349243x14)), (some (.bool true))]⟩
noncomputable def o156_2 (P : Params) : Obj := ⟨(.type PySem.W.SL.s4290257624100764138x5), none, (.fields #[(.ref 155), (.ref 155), (.ref 155)]), #[]⟩
noncomputable def o157_2 (P : Params) : Obj := ⟨(.type PySem.W.SL.s11030030927630378310x26), none, (.fields #[(.builtin PySem.W.SL.s4860613602091757760x24), (.ref 155)]), #[]⟩
noncomputable def o158_2 (P : Params) : Obj := ⟨(.type PySem.W.SL.s2766695959194262286x5), none, (.seq #[(.ref 127)] 0), #[]⟩
noncomputable def o159_2 (P : Params) : Obj := ⟨(.type PySem.W.SL.s11030030927630378310x26), none, (.fields #[(.builtin PySem.W.SL.s10062305145149207511x16), (.type PySem.W.SL.s17162191345867700912x4)]), #[]⟩
noncomputable def o160_2 (P : Params) : Obj := ⟨(.type PySem.W.SL.s14018661285674007319x4), none, (.dict #[⟨(kh P s18), (.str s18 384), (.str s23 299)⟩, ⟨(kh P s19), (.str s19 386), (.str s52 385)⟩, ⟨(kh P s20), (.str s20 388), (.int 71 387)⟩, ⟨(kh P s53), (.str s53 395), (.ref 171)⟩, ⟨(kh P s54), (.str s54 402), (.ref 178)⟩, ⟨(kh P s58), (.str s58 410), (.ref 185)⟩, ⟨(kh P s59), (.str s59 418), (.ref 192)⟩, ⟨(kh P s21), (.str s21 419), (.ref 193)⟩] 8), #[]⟩
noncomputable def o161_2 (P : Params) : Obj := ⟨(.type PySem.W.SL.s2766695959194262286x5), none, (.seq #[] 0), #[]⟩
noncomputable def o162_2 (P : Params) : Obj := ⟨.none, none, (.fields #[(.int 73 0), (.int 4 0), (.ref 170), (.int 76 0), (.int 4 0), (.ref 177), (.int 79 0), (.int 4 0), (.ref 184), (.int 82 0), (.int 4 0), (.ref 191)]), #[]⟩
noncomputable def o163_2 (P : Params) : Obj := ⟨(.type PySem.W.SL.s5856160107412720595x4), none, (.fields #[(.str s52 379), (.str s52 380), (.str s1 381), (.int 71 0), (.int 0 0), (.int 0 0), (.int 0 0), (.int 0 0), (.ref 161), (.bool false), (.int 181 0), (.ref 162), .none, .none, .none, .none, (.int 382 0), (.int 71 0), (.str s1 383)]), #[]⟩
noncomputable def o164_2 (P : Params) : Obj := ⟨(.type PySem.W.SL.s658472552662922059x5), none, .plain, #[(some (.ref 163)), (some (.ref 3)), (some (.ref 160)), none, (some (.str s23 299)), none, (some (.ref 0))]⟩
noncomputable def o165_2 (P : Params) : Obj := ⟨(.type PySem.W.SL.s2766695959194262286x5), none, (.seq #[] 0), #[]⟩
noncomputable def o166_2 (P : Params) : Obj := ⟨.none, none, (.fields #[]), #[]⟩
noncomputable def o167_2 (P : Params) : Obj := ⟨(.type PySem.W.SL.s2766695959194262286x5), none, (.seq #[(.str s55 392)] 0), #[]⟩
noncomputable def o168_2 (P : Params) : Obj := ⟨(.type PySem.W.SL.s2766695959194262286x5), none, (.seq #[] 0), #[]⟩
noncomputable def o169_2 (P : Params) : Obj := ⟨.none, none, (.func ⟨s53, s60, (L2.defArgs (L2.inClass (topT 20) 0)), (.stmts (L2.defBody (L2.inClass (topT 20) 0))), (L2.defScope (L2.inClass (topT 20) 0)), 0, [], .none, .none, .none, .none, none, .none, .none, 0⟩), #[]⟩
noncomputable def o170_2 (P : Params) : Obj := ⟨(.type PySem.W.SL.s5856160107412720595x4), none, (.fields #[(.str s53 389), (.str s60 390), (.str s1 391), (.int 73 0), (.int 1 0), (.int 0 0), (.int 0 0), (.int 3 0), (.ref 165), (.bool true), (.int 181 0), (.ref 166), .none, (.ref 167), (.ref 168), (.ref 169), (.int 393 0), (.int 73 0), (.str s1 394)]), #[]⟩
noncomputable def o171_2 (P : Params) : Obj := ⟨(.type PySem.W.SL.s7174869446012820540x8), none, (.func ⟨s53, s60, (L2.defArgs (L2.inClass (topT 20) 0)), (.stmts (L2.defBody (L2.inClass (topT 20) 0))), (L2.defScope (L2.inClass (topT 20) 0)), 3, [], .none, .none, .none, (.str s23 299), none, (.ref 170), .none, 0⟩), #[]⟩
noncomputable def o172_2 (P : Params) : Obj := ⟨(.type PySem.W.SL.s2766695959194262286x5), none, (.seq #[] 0), #[]⟩
noncomputable def o173_2 (P : Params) : Obj := ⟨.none, none, (.fields #[]), #[]⟩
noncomputable def o174_2 (P : Params) : Obj := ⟨(.type PySem.W.SL.s2766695959194262286x5), none, (.seq #[(.str s55 399)] 0), #[]⟩
noncomputable def o175_2 (P : Params) : Obj := ⟨(.type PySem.W.SL.s2766695959194262286x5), none, (.seq #[] 0), #[]⟩
noncomputable def o176_2 (P : Params) : Obj := ⟨.none, none, (.func ⟨s54, s61, (L2.defArgs (L2.inClass (topT 20) 1)), (.stmts (L2.defBody (L2.inClass (topT 20) 1))), (L2.defScope (L2.inClass (topT 20) 1)), 0, [], .none, .none, .none, .none, none, .none, .none, 0⟩), #[]⟩
noncomputable def o177_2 (P : Params) : Obj := ⟨(.type PySem.W.SL.s5856160107412720595x4), none, (.fields #[(.str s54 396), (.str s61 397), (.str s1 398), (.int 76 0), (.int 1 0), (.int 0 0), (.int 0 0), (.int 3 0), (.ref 172), (.bool true), (.int 181 0), (.ref 173), .none, (.ref 174), (.ref 175), (.ref 176), (.int 400 0), (.int 76 0), (.str s1 401)]), #[]⟩
noncomputable def o178_2 (P : Params) : Obj := ⟨(.type PySem.W.SL.s7174869446012820540x8), none, (.func ⟨s54, s61, (L2.defArgs (L2.inClass (topT 20) 1)), (.stmts (L2.defBody (L2.inClass (topT 20) 1))), (L2.defScope (L2.inClass (topT 20) 1)), 3, [], .none, .none, .none, (.str s23 299), none, (.ref 177), .none, 0⟩), #[]⟩
noncomputable def o179_2 (P : Params) : Obj := ⟨(.type PySem.W.SL.s2766695959194262286x5), none, (.seq #[] 0), #[]⟩
noncomputable def o180_2 (P : Params) : Obj := ⟨.none, none, (.fields #[]), #[]⟩
noncomputable def o181_2 (P : Params) : Obj := ⟨(.type PySem.W.SL.s2766695959194262286x5), none, (.seq #[(.str s55 406), (.str s62 407)] 0), #[]⟩
noncomputable def o182_2 (P : Params) : Obj := ⟨(.type PySem.W.SL.s2766695959194262286x5), none, (.seq #[] 0), #[]⟩
noncomputable def o183_2 (P : Params) : Obj := ⟨.none, none, (.func ⟨s58, s63, (L2.defArgs (L2.inClass (topT 20) 2)), (.stmts (L2.defBody (L2.inClass (topT 20) 2))), (L2.defScope (L2.inClass (topT 20) 2)), 0, [], .none, .none, .none, .none, none, .none, .none, 0⟩), #[]⟩
noncomputable def o184_2 (P : Params) : Obj := ⟨(.type PySem.W.SL.s5856160107412720595x4), none, (.fields #[(.str s58 403), (.str s63 404), (.str s1 405), (.int 79 0), (.int 2 0), (.int 0 0), (.int 0 0), (.int 3 0), (.ref 179), (.bool true), (.int 181 0), (.ref 180), .none, (.ref 181), (.ref 182), (.ref 183), (.int 408 0), (.int 79 0), (.str s1 409)]), #[]⟩
noncomputable def o185_2 (P : Params) : Obj := ⟨(.type PySem.W.SL.s7174869446012820540x8), none, (.func ⟨s58, s63, (L2.defArgs (L2.inClass (topT 20) 2)), (.stmts (L2.defBody (L2.inClass (topT 20) 2))), (L2.defScope (L2.inClass (topT 20) 2)), 3, [], .none, .none, .none, (.str s23 299), none, (.ref 184), .none, 0⟩), #[]⟩
noncomputable def o186_2 (P : Params) : Obj := ⟨(.type PySem.W.SL.s2766695959194262286x5), none, (.seq #[] 0), #[]⟩
noncomputable def o187_2 (P : Params) : Obj := ⟨.none, none, (.fields #[]), #[]⟩
noncomputable def o188_2 (P : Params) : Obj := ⟨(.type PySem.W.SL.s2766695959194262286x5), none, (.seq #[(.str s55 414), (.str s62 415)] 0), #[]⟩
noncomputable def o189_2 (P : Params) : Obj := ⟨(.type PySem.W.SL.s2766695959194262286x5), none, (.seq #[] 0), #[]⟩
noncomputable def o190_2 (P : Params) : Obj := ⟨.none, none, (.func ⟨s59, s64, (L2.defArgs (L2.inClass (topT 20) 3)), (.stmts (L2.defBody (L2.inClass (topT 20) 3))), (L2.defScope (L2.inClass (topT 20) 3)), 0, [], .none, .none, .none, .none, none, .none, .none, 0⟩), #[]⟩
noncomputable def o191_2 (P : Params) : Obj := ⟨(.type PySem.W.SL.s5856160107412720595x4), none, (.fields #[(.str s59 411), (.str s64 412), (.str s1 413), (.int 82 0), (.int 2 0), (.int 0 0), (.int 0 0), (.int 3 0), (.ref 186), (.bool true), (.int 181 0), (.ref 187), .none, (.ref 188), (.ref 189), (.ref 190), (.int 416 0), (.int 82 0), (.str s1 417)]), #[]⟩
noncomputable def o192_2 (P : Params) : Obj := ⟨(.type PySem.W.SL.s7174869446012820540x8), none, (.func ⟨s59, s64, (L2.defArgs (L2.inClass (topT 20) 3)), (.stmts (L2.defBody (L2.inClass (topT 20) 3))), (L2.defScope (L2.inClass (topT 20) 3)), 3, [], .none, .none, .none, (.str s23 299), none, (.ref 191), .none, 0⟩), #[]⟩
noncomputable def o193_2 (P : Params) : Obj := ⟨(.type PySem.W.SL.s2766695959194262286x5), none, (.seq #[] 0), #[]⟩
noncomputable def o194_2 (P : Params) : Obj := ⟨(.type PySem.W.SL.s14018661285674007319x4), none, (.dict #[⟨(kh P s18), (.str s18 384), (.str s23 299)⟩, ⟨(kh P s20), (.str s20 388), (.int 71 387)⟩, ⟨(kh P s53), (.str s53 395), (.ref 171)⟩, ⟨(kh P s54), (.str s54 402), (.ref 178)⟩, ⟨(kh P s58), (.str s58 410), (.ref 185)⟩, ⟨(kh P s59), (.str s59 418), (.ref 192)⟩, ⟨(kh P s21), (.str s21 419), (.ref 193)⟩, ⟨(kh P s5), (.str s5 420), .none⟩] 2), #[]⟩
noncomputable def o195_2 (P : Params) : Obj := ⟨(.type PySem.W.SL.s17162191345867700912x4), none, (.cls ⟨s52, [(.ref 127)], [(.ref 195), (.ref 127), (.type PySem.W.SL.s2742458400755230247x6)], 194, s52, true, [], [], false, none, false⟩), #[(some (.ref 158)), none, (some (.str s52 377)), (some (.str s52 385)), (some (.builtin PySem.W.SL.s11443829558043349243x14)), (some (.bool true))]⟩
noncomputable def o196_2 (P : Params) : Obj := ⟨(.type PySem.W.SL.s4290257624100764138x5), none, (.fields #[(.ref 195), (.ref 195), (.ref 195)]), #[]⟩
noncomputable def o197_2 (P : Params) : Obj := ⟨(.type PySem.W.SL.s11030030927630378310x26), none, (.fields #[(.builtin PySem.W.SL.s4860613602091757760x24), (.ref 195)]), #[]⟩
noncomputable def o3_3 (P : Params) : Obj := ⟨(.type PySem.W.SL.s14018661285674007319x4), none, (.dict #[⟨(kh P s3), (.str s3 165), (.str s23 299)⟩, ⟨(kh P s5), (.str s5 166), .none⟩, ⟨(kh P s6), (.str s6 167), .none⟩, ⟨(kh P s7), (.str s7 168), (.builtin PySem.W.SL.s7097527257260152453x26)⟩, ⟨(kh P s8), (.str s8 169), .none⟩, ⟨(kh P s9), (.str s9 170), (.ref 6)⟩, ⟨(kh P s10), (.str s10 171), (.ref 4)⟩, ⟨(kh P s11), (.str s11 173), (.str s1 172)⟩, ⟨(kh P s12), (.str s12 174), .none⟩, ⟨(kh P s13), (.str s13 193), (.ref 21)⟩, ⟨(kh P s14), (.str s14 213), (.ref 31)⟩, ⟨(kh P s15), (.str s15 229), (.ref 44)⟩, ⟨(kh P s16), (.str s16 245), (.ref 56)⟩, ⟨(kh P s24), (.str s24 261), (.ref 68)⟩, ⟨(kh P s25), (.str s25 270), (.ref 77)⟩, ⟨(kh P s26), (.str s26 281), (.ref 84)⟩, ⟨(kh P s27), (.str s27 290), (.ref 91)⟩, ⟨(kh P s28), (.str s28 298), (.ref 98)⟩, ⟨(kh P s29), (.str s29 302), (.str s30 301)⟩, ⟨(kh P s31), (.str s31 304), (.int 30 303)⟩, ⟨(kh P s32), (.str s32 306), (.int 1000000 305)⟩, ⟨(kh P s33), (.str s33 312), (.ref 103)⟩, ⟨(kh P s34), (.str s34 319), (.ref 110)⟩, ⟨(kh P s35), (.str s35 326), (.ref 117)⟩, ⟨(kh P s36), (.str s36 346), (.ref 127)⟩, ⟨(kh P s51), (.str s51 376), (.ref 155)⟩, ⟨(kh P s52), (.str s52 422), (.ref 195)⟩, ⟨(kh P s65), (.str s65 520), (.ref 277)⟩] 28), #[]⟩
noncomputable def o12_3 (P : Params) : Obj := ⟨.none, none, (.fields #[(.int 1 0), (.int 0 0), (.ref 20), (.int 5 0), (.int 0 0), (.ref 27), (.int 7 0), (.int 0 0), (.ref 40), (.int 9 0), (.int 0 0), (.ref 52), (.int 11 0), (.int 0 0), (.ref 64), (.int 14 0), (.int 0 0), (.ref 76), (.int 16 0), (.int 0 0), (.ref 83), (.int 24 0), (.int 0 0), (.ref 90), (.int 33 0), (.int 0 0), (.ref 97), (.int 46 0), (.int 0 0), (.ref 102), (.int 55 0), (.int 0 0), (.ref 109), (.int 59 0), (.int 0 0), (.ref 116), (.int 62 0), (.int 0 0), (.ref 123), (.int 64 0), (.int 0 0), (.ref 137), (.int 71 0), (.int 0 0), (.ref 163), (.int 84 0), (.int 0 0), (.ref 203)]), #[]⟩
noncomputable def o155_3 (P : Params) : Obj := ⟨(.type PySem.W.SL.s17162191345867700912x4), none, (.cls ⟨s51, [(.ref 127)], [(.ref 155), (.ref 127), (.type PySem.W.SL.s2742458400755230247x6)], 154, s51, true, [], [(.ref 277)], false, none, false⟩), #[(some (.ref 132)), none, (some (.str s51 347)), (some (.str s51 355)), (some (.builtin PySem.W.SL.s11443829558043349243x14)), (some (.bool true))]⟩
noncomputable def o198_3 (P : Params) : Obj := ⟨(.type PySem.W.SL.s2766695959194262286x5), none, (.seq #[(.ref 155)] 0), #[]⟩
noncomputable def o199_3 (P : Params) : Obj := ⟨(.type PySem.W.SL.s11030030927630378310x26), none, (.fields #[(.builtin PySem.W.SL.s10062305145149207511x16), (.type PySem.W.SL.s17162191345867700912x4)]), #[]⟩
noncomputable def o200_3 (P : Params) : Obj := ⟨(.type PySem.W.SL.s14018661285674007319x4), none, (.dict #[⟨(kh P s18), (.str s18 430), (.str s23 299)⟩, ⟨(kh P s19), (.str s19 432), (.str s65 431)⟩, ⟨(kh P s20), (.str s20 434), (.int 84 433)⟩, ⟨(kh P s66), (.str s66 441), (.ref 211)⟩, ⟨(kh P s67), (.str s67 448), (.ref 218)⟩, ⟨(kh P s39), (.str s39 455), (.ref 225)⟩, ⟨(kh P s68), (.str s68 464), (.ref 232)⟩, ⟨(kh P s69), (.str s69 473), (.ref 239)⟩, ⟨(kh P s58), (.str s58 481), (.ref 246)⟩, ⟨(kh P s59), (.str s59 489), (.ref 253)⟩, ⟨(kh P s70), (.str s70 497), (.ref 260)⟩, ⟨(kh P s71), (.str s71 505), (.ref 267)⟩, ⟨(kh P s72), (.str s72 516), (.ref 274)⟩, ⟨(kh P s21), (.str s21 517), (.ref 275)⟩] 14), #[]⟩
noncomputable def o201_3 (P : Params) : Obj := ⟨(.type PySem.W.SL.s2766695959194262286x5), none, (.seq #[] 0), #[]⟩
noncomputable def o202_3 (P : Params) : Obj := ⟨.none, none, (.fields #[(.int 86 0), (.int 4 0), (.ref 210), (.int 89 0), (.int 4 0), (.ref 217), (.int 92 0), (.int 4 0), (.ref 224), (.int 95 0), (.int 4 0), (.ref 231), (.int 98 0), (.int 4 0), (.ref 238), (.int 101 0), (.int 4 0), (.ref 245), (.int 104 0), (.int 4 0), (.ref 252), (.int 107 0), (.int 4 0), (.ref 259), (.int 114 0), (.int 4 0), (.ref 266), (.int 117 0), (.int 4 0), (.ref 273)]), #[]⟩
noncomputable def o203_3 (P : Params) : Obj := ⟨(.type PySem.W.SL.s5856160107412720595x4), none, (.fields #[(.str s65 425), (.str s65 426), (.str s1 427), (.int 84 0), (.int 0 0), (.int 0 0), (.int 0 0), (.int 0 0), (.ref 201), (.bool false), (.int 181 0), (.ref 202), .none, .none, .none, .none, (.int 428 0), (.int 84 0), (.str s1 429)]), #[]⟩
noncomputable def o204_3 (P : Params) : Obj := ⟨(.type PySem.W.SL.s658472552662922059x5), none, .plain, #[(some (.ref 203)), (some (.ref 3)), (some (.ref 200)), none, (some (.str s23 299)), none, (some (.ref 0))]⟩
noncomputable def o205_3 (P : Params) : Obj := ⟨(.type PySem.W.SL.s2766695959194262286x5), none, (.seq #[] 0), #[]⟩
noncomputable def o206_3 (P : Params) : Obj := ⟨.none, none, (.fields #[]), #[]⟩
noncomputable def o207_3 (P : Params) : Obj := ⟨(.type PySem.W.SL.s2766695959194262286x5), none, (.seq #[(.str s55 438)] 0), #[]⟩
noncomputable def o208_3 (P : Params) : Obj := ⟨(.type PySem.W.SL.s2766695959194262286x5), none, (.seq #[] 0), #[]⟩
noncomputable def o209_3 (P : Params) : Obj := ⟨.none, none, (.func ⟨s66, s73, (L2.defArgs (L2.inClass (topT 21) 0)), (.stmts (L2.defBody (L2.inClass (topT 21) 0))), (L2.defScope (L2.inClass (topT 21) 0)), 0, [], .none, .none, .none, .none, none, .none, .none, 0⟩), #[]⟩
noncomputable def o210_3 (P : Params) : Obj := ⟨(.type PySem.W.SL.s5856160107412720595x4), none, (.fields #[(.str s66 435), (.str s73 436), (.str s1 437), (.int 86 0), (.int 1 0), (.int 0 0), (.int 0 0), (.int 3 0), (.ref 205), (.bool true), (.int 181 0), (.ref 206), .none, (.ref 207), (.ref 208), (.ref 209), (.int 439 0), (.int 86 0), (.str s1 440)]), #[]⟩
noncomputable def o211_3 (P : Params) : Obj := ⟨(.type PySem.W.SL.s7174869446012820540x8), none, (.func ⟨s66, s73, (L2.defArgs (L2.inClass (topT 21) 0)), (.stmts (L2.defBody (L2.inClass (topT 21) 0))), (L2.defScope (L2.inClass (topT 21) 0)), 3, [], .none, .none, .none, (.str s23 299), none, (.ref 210), .none, 0⟩), #[]⟩
noncomputable def o212_3 (P : Params) : Obj := ⟨(.type PySem.W.SL.s2766695959194262286x5), none, (.seq #[] 0), #[]⟩
noncomputable def o213_3 (P : Params) : Obj := ⟨.none, none, (.fields #[]), #[]⟩
noncomputable def o214_3 (P : Params) : Obj := ⟨(.type PySem.W.SL.s2766695959194262286x5), none, (.seq #[(.str s55 445)] 0), #[]⟩
noncomputable def o215_3 (P : Params) : Obj := ⟨(.type PySem.W.SL.s2766695959194262286x5), none, (.seq #[] 0), #[]⟩
noncomputable def o216_3 (P : Params) : Obj := ⟨.none, none, (.func ⟨s67, s74, (L2.defArgs (L2.inClass (topT 21) 1)), (.stmts (L2.defBody (L2.inClass (topT 21) 1))), (L2.defScope (L2.inClass (topT 21) 1)), 0, [], .none, .none, .none, .none, none, .none, .none, 0⟩), #[]⟩
noncomputable def o217_3 (P : Params) : Obj := ⟨(.type PySem.W.SL.s5856160107412720595x4), none, (.fields #[(.str s67 442), (.str s74 443), (.str s1 444), (.int 89 0), (.int 1 0), (.int 0 0), (.int 0 0), (.int 3 0), (.ref 212), (.bool true), (.int 181 0), (.ref 213), .none, (.ref 214), (.ref 215), (.ref 216), (.int 446 0), (.int 89 0), (.str s1 447)]), #[]⟩
noncomputable def o218_3 (P : Params) : Obj := ⟨(.type PySem.W.SL.s7174869446012820540x8), none, (.func ⟨s67, s74, (L2.defArgs (L2.inClass (topT 21) 1)), (.stmts (L2.defBody (L2.inClass (topT 21) 1))), (L2.defScope (L2.inClass (topT 21) 1)), 3, [], .none, .none, .none, (.str s23 299), none, (.ref 217), .none, 0⟩), #[]⟩
noncomputable def o219_3 (P : Params) : Obj := ⟨(.type PySem.W.SL.s2766695959194262286x5), none, (.seq #[] 0), #[]⟩
noncomputable def o220_3 (P : Params) : Obj := ⟨.none, none, (.fields #[]), #[]⟩
noncomputable def o221_3 (P : Params) : Obj := ⟨(.type PySem.W.SL.s2766695959194262286x5), none, (.seq #[(.str s55 452)] 0), #[]⟩
noncomputable def o222_3 (P : Params) : Obj := ⟨(.type PySem.W.SL.s2766695959194262286x5), none, (.seq #[] 0), #[]⟩
noncomputable def o223_3 (P : Params) : Obj := ⟨.none, none, (.func ⟨s39, s75, (L2.defArgs (L2.inClass (topT 21) 2)), (.stmts (L2.defBody (L2.inClass (topT 21) 2))), (L2.defScope (L2.inClass (topT 21) 2)), 0, [], .none, .none, .none, .none, none, .none, .none, 0⟩), #[]⟩
noncomputable def o224_3 (P : Params) : Obj := ⟨(.type PySem.W.SL.s5856160107412720595x4), none, (.fields #[(.str s39 449), (.str s75 450), (.str s1 451), (.int 92 0), (.int 1 0), (.int 0 0), (.int 0 0), (.int 3 0), (.ref 219), (.bool true), (.int 181 0), (.ref 220), .none, (.ref 221), (.ref 222), (.ref 223), (.int 453 0), (.int 92 0), (.str s1 454)]), #[]⟩
noncomputable def o225_3 (P : Params) : Obj := ⟨(.type PySem.W.SL.s7174869446012820540x8), none, (.func ⟨s39, s75, (L2.defArgs (L2.inClass (topT 21) 2)), (.stmts (L2.defBody (L2.inClass (topT 21) 2))), (L2.defScope (L2.inClass (topT 21) 2)), 3, [], .none, .none, .none, (.str s23 299), none, (.ref 224), .none, 0⟩), #[]⟩
noncomputable def o226_3 (P : Params) : Obj := ⟨(.type PySem.W.SL.s2766695959194262286x5), none, (.seq #[] 0), #[]⟩
noncomputable def o227_3 (P : Params) : Obj := ⟨.none, none, (.fields #[]), #[]⟩
noncomputable def o228_3 (P : Params) : Obj := ⟨(.type PySem.W.SL.s2766695959194262286x5), none, (.seq #[(.str s55 459), (.str s62 460), (.str s76 461)] 0), #[]⟩
noncomputable def o229_3 (P : Params) : Obj := ⟨(.type PySem.W.SL.s2766695959194262286x5), none, (.seq #[] 0), #[]⟩
noncomputable def o230_3 (P : Params) : Obj := ⟨.none, none, (.func ⟨s68, s77, (L2.defArgs (L2.inClass (topT 21) 3)), (.stmts (L2.defBody (L2.inClass (topT 21) 3))), (L2.defScope (L2.inClass (topT 21) 3)), 0, [], .none, .none, .none, .none, none, .none, .none, 0⟩), #[]⟩
noncomputable def o231_3 (P : Params) : Obj := ⟨(.type PySem.W.SL.s5856160107412720595x4), none, (.fields #[(.str s68 456), (.str s77 457), (.str s1 458), (.int 95 0), (.int 3 0), (.int 0 0), (.int 0 0), (.int 3 0), (.ref 226), (.bool true), (.int 181 0), (.ref 227), .none, (.ref 228), (.ref 229), (.ref 230), (.int 462 0), (.int 95 0), (.str s1 463)]), #[]⟩
noncomputable def o232_3 (P : Params) : Obj := ⟨(.type PySem.W.SL.s7174869446012820540x8), none, (.func ⟨s68, s77, (L2.defArgs (L2.inClass (topT 21) 3)), (.stmts (L2.defBody (L2.inClass (topT 21) 3))), (L2.defScope (L2.inClass (topT 21) 3)), 3, [], .none, .none, .none, (.str s23 299), none, (.ref 231), .none, 0⟩), #[]⟩
noncomputable def o233_3 (P : Params) : Obj := ⟨(.type PySem.W.SL.s2766695959194262286x5), none, (.seq #[] 0), #[]⟩
noncomputable def o234_3 (P : Params) : Obj := ⟨.none, none, (.fields #[]), #[]⟩
noncomputable def o235_3 (P : Params) : Obj := ⟨(.type PySem.W.SL.s2766695959194262286x5), none, (.seq #[(.str s55 468), (.str s62 469), (.str s76 470)] 0), #[]⟩
noncomputable def o236_3 (P : Params) : Obj := ⟨(.type PySem.W.SL.s2766695959194262286x5), none, (.seq #[] 0), #[]⟩
noncomputable def o237_3 (P : Params) : Obj := ⟨.none, none, (.func ⟨s69, s78, (L2.defArgs (L2.inClass (topT 21) 4)), (.stmts (L2.defBody (L2.inClass (topT 21) 4))), (L2.defScope (L2.inClass (topT 21) 4)), 0, [], .none, .none, .none, .none, none, .none, .none, 0⟩), #[]⟩
noncomputable def o238_3 (P : Params) : Obj := ⟨(.type PySem.W.SL.s5856160107412720595x4), none, (.fields #[(.str s69 465), (.str s78 466), (.str s1 467), (.int 98 0), (.int 3 0), (.int 0 0), (.int 0 0), (.int 3 0), (.ref 233), (.bool true), (.int 181 0), (.ref 234), .none, (.ref 235), (.ref 236), (.ref 237), (.int 471 0), (.int 98 0), (.str s1 472)]), #[]⟩
noncomputable def o239_3 (P : Params) : Obj := ⟨(.type PySem.W.SL.s7174869446012820540x8), none, (.func ⟨s69, s78, (L2.defArgs (L2.inClass (topT 21) 4)), (.stmts (L2.defBody (L2.inClass (topT 21) 4))), (L2.defScope (L2.inClass (topT 21) 4)), 3, [], .none, .none, .none, (.str s23 299), none, (.ref 238), .none, 0⟩), #[]⟩
noncomputable def o240_3 (P : Params) : Obj := ⟨(.type PySem.W.SL.s2766695959194262286x5), none, (.seq #[] 0), #[]⟩
noncomputable def o241_3 (P : Params) : Obj := ⟨.none, none, (.fields #[]), #[]⟩
noncomputable def o242_3 (P : Params) : Obj := ⟨(.type PySem.W.SL.s2766695959194262286x5), none, (.seq #[(.str s55 477), (.str s62 478)] 0), #[]⟩
noncomputable def o243_3 (P : Params) : Obj := ⟨(.type PySem.W.SL.s2766695959194262286x5), none, (.seq #[] 0), #[]⟩
noncomputable def o244_3 (P : Params) : Obj := ⟨.none, none, (.func ⟨s58, s79, (L2.defArgs (L2.inClass (topT 21) 5)), (.stmts (L2.defBody (L2.inClass (topT 21) 5))), (L2.defScope (L2.inClass (topT 21) 5)), 0, [], .none, .none, .none, .none, none, .none, .none, 0⟩), #[]⟩
noncomputable def o245_3 (P : Params) : Obj := ⟨(.type PySem.W.SL.s5856160107412720595x4), none, (.fields #[(.str s58 474), (.str s79 475), (.str s1 476), (.int 101 0), (.int 2 0), (.int 0 0), (.int 0 0), (.int 3 0), (.ref 240), (.bool true), (.int 181 0), (.ref 241), .none, (.ref 242), (.ref 243), (.ref 244), (.int 479 0), (.int 101 0), (.str s1 480)]), #[]⟩
noncomputable def o246_3 (P : Params) : Obj := ⟨(.type PySem.W.SL.s7174869446012820540x8), none, (.func ⟨s58, s79, (L2.defArgs (L2.inClass (topT 21) 5)), (.stmts (L2.defBody (L2.inClass (topT 21) 5))), (L2.defScope (L2.inClass (topT 21) 5)), 3, [], .none, .none, .none, (.str s23 299), none, (.ref 245), .none, 0⟩), #[]⟩
noncomputable def o247_3 (P : Params) : Obj := ⟨(.type PySem.W.SL.s2766695959194262286x5), none, (.seq #[] 0), #[]⟩
noncomputable def o248_3 (P : Params) : Obj := ⟨.none, none, (.fields #[]), #[]⟩
noncomputable def o249_3 (P : Params) : Obj := ⟨(.type PySem.W.SL.s2766695959194262286x5), none, (.seq #[(.str s55 485), (.str s62 486)] 0), #[]⟩
noncomputable def o250_3 (P : Params) : Obj := ⟨(.type PySem.W.SL.s2766695959194262286x5), none, (.seq #[] 0), #[]⟩
noncomputable def o251_3 (P : Params) : Obj := ⟨.none, none, (.func ⟨s59, s80, (L2.defArgs (L2.inClass (topT 21) 6)), (.stmts (L2.defBody (L2.inClass (topT 21) 6))), (L2.defScope (L2.inClass (topT 21) 6)), 0, [], .none, .none, .none, .none, none, .none, .none, 0⟩), #[]⟩
noncomputable def o252_3 (P : Params) : Obj := ⟨(.type PySem.W.SL.s5856160107412720595x4), none, (.fields #[(.str s59 482), (.str s80 483), (.str s1 484), (.int 104 0), (.int 2 0), (.int 0 0), (.int 0 0), (.int 3 0), (.ref 247), (.bool true), (.int 181 0), (.ref 248), .none, (.ref 249), (.ref 250), (.ref 251), (.int 487 0), (.int 104 0), (.str s1 488)]), #[]⟩
noncomputable def o253_3 (P : Params) : Obj := ⟨(.type PySem.W.SL.s7174869446012820540x8), none, (.func ⟨s59, s80, (L2.defArgs (L2.inClass (topT 21) 6)), (.stmts (L2.defBody (L2.inClass (topT 21) 6))), (L2.defScope (L2.inClass (topT 21) 6)), 3, [], .none, .none, .none, (.str s23 299), none, (.ref 252), .none, 0⟩), #[]⟩
noncomputable def o254_3 (P : Params) : Obj := ⟨(.type PySem.W.SL.s2766695959194262286x5), none, (.seq #[] 0), #[]⟩
noncomputable def o255_3 (P : Params) : Obj := ⟨.none, none, (.fields #[]), #[]⟩
noncomputable def o256_3 (P : Params) : Obj := ⟨(.type PySem.W.SL.s2766695959194262286x5), none, (.seq #[(.str s55 493), (.str s37 494)] 0), #[]⟩
noncomputable def o257_3 (P : Params) : Obj := ⟨(.type PySem.W.SL.s2766695959194262286x5), none, (.seq #[] 0), #[]⟩
noncomputable def o258_3 (P : Params) : Obj := ⟨.none, none, (.func ⟨s70, s81, (L2.defArgs (L2.inClass (topT 21) 7)), (.stmts (L2.defBody (L2.inClass (topT 21) 7))), (L2.defScope (L2.inClass (topT 21) 7)), 0, [], .none, .none, .none, .none, none, .none, .none, 0⟩), #[]⟩
noncomputable def o259_3 (P : Params) : Obj := ⟨(.type PySem.W.SL.s5856160107412720595x4), none, (.fields #[(.str s70 490), (.str s81 491), (.str s1 492), (.int 107 0), (.int 2 0), (.int 0 0), (.int 0 0), (.int 3 0), (.ref 254), (.bool true), (.int 181 0), (.ref 255), .none, (.ref 256), (.ref 257), (.ref 258), (.int 495 0), (.int 107 0), (.str s1 496)]), #[]⟩
noncomputable def o260_3 (P : Params) : Obj := ⟨(.type PySem.W.SL.s7174869446012820540x8), none, (.func ⟨s70, s81, (L2.defArgs (L2.inClass (topT 21) 7)), (.stmts (L2.defBody (L2.inClass (topT 21) 7))), (L2.defScope (L2.inClass (topT 21) 7)), 3, [], .none, .none, .none, (.str s23 299), none, (.ref 259), .none, 0⟩), #[]⟩
noncomputable def o261_3 (P : Params) : Obj := ⟨(.type PySem.W.SL.s2766695959194262286x5), none, (.seq #[] 0), #[]⟩
noncomputable def o262_3 (P : Params) : Obj := ⟨.none, none, (.fields #[]), #[]⟩
noncomputable def o263_3 (P : Params) : Obj := ⟨(.type PySem.W.SL.s2766695959194262286x5), none, (.seq #[(.str s55 501), (.str s62 502)] 0), #[]⟩
noncomputable def o264_3 (P : Params) : Obj := ⟨(.type PySem.W.SL.s2766695959194262286x5), none, (.seq #[] 0), #[]⟩
noncomputable def o265_3 (P : Params) : Obj := ⟨.none, none, (.func ⟨s71, s82, (L2.defArgs (L2.inClass (topT 21) 8)), (.stmts (L2.defBody (L2.inClass (topT 21) 8))), (L2.defScope (L2.inClass (topT 21) 8)), 0, [], .none, .none, .none, .none, none, .none, .none, 0⟩), #[]⟩
noncomputable def o266_3 (P : Params) : Obj := ⟨(.type PySem.W.SL.s5856160107412720595x4), none, (.fields #[(.str s71 498), (.str s82 499), (.str s1 500), (.int 114 0), (.int 2 0), (.int 0 0), (.int 0 0), (.int 3 0), (.ref 261), (.bool true), (.int 181 0), (.ref 262), .none, (.ref 263), (.ref 264), (.ref 265), (.int 503 0), (.int 114 0), (.str s1 504)]), #[]⟩
noncomputable def o267_3 (P : Params) : Obj := ⟨(.type PySem.W.SL.s7174869446012820540x8), none, (.func ⟨s71, s82, (L2.defArgs (L2.inClass (topT 21) 8)), (.stmts (L2.defBody (L2.inClass (topT 21) 8))), (L2.defScope (L2.inClass (topT 21) 8)), 3, [], .none, .none, .none, (.str s23 299), none, (.ref 266), .none, 0⟩), #[]⟩
noncomputable def o268_3 (P : Params) : Obj := ⟨(.type PySem.W.SL.s2766695959194262286x5), none, (.seq #[] 0), #[]⟩
noncomputable def o269_3 (P : Params) : Obj := ⟨.none, none, (.fields #[]), #[]⟩
noncomputable def o270_3 (P : Params) : Obj := ⟨(.type PySem.W.SL.s2766695959194262286x5), none, (.seq #[(.str s55 509), (.str s49 510), (.str s83 511), (.str s44 512), (.str s45 513)] 0), #[]⟩
noncomputable def o271_3 (P : Params) : Obj := ⟨(.type PySem.W.SL.s2766695959194262286x5), none, (.seq #[] 0), #[]⟩
noncomputable def o272_3 (P : Params) : Obj := ⟨.none, none, (.func ⟨s72, s84, (L2.defArgs (L2.inClass (topT 21) 9)), (.stmts (L2.defBody (L2.inClass (topT 21) 9))), (L2.defScope (L2.inClass (topT 21) 9)), 0, [], .none, .none, .none, .none, none, .none, .none, 0⟩), #[]⟩
noncomputable def o273_3 (P : Params) : Obj := ⟨(.type PySem.W.SL.s5856160107412720595x4), none, (.fields #[(.str s72 506), (.str s84 507), (.str s1 508), (.int 117 0), (.int 2 0), (.int 0 0), (.int 0 0), (.int 3 0), (.ref 268), (.bool true), (.int 181 0), (.ref 269), .none, (.ref 270), (.ref 271), (.ref 272), (.int 514 0), (.int 117 0), (.str s1 515)]), #[]⟩
noncomputable def o274_3 (P : Params) : Obj := ⟨(.type PySem.W.SL.s7174869446012820540x8), none, (.func ⟨s72, s84, (L2.defArgs (L2.inClass (topT 21) 9)), (.stmts (L2.defBody (L2.inClass (topT 21) 9))), (L2.defScope (L2.inClass (topT 21) 9)), 3, [], .none, .none, .none, (.str s23 299), none, (.ref 273), .none, 0⟩), #[]⟩
noncomputable def o275_3 (P : Params) : Obj := ⟨(.type PySem.W.SL.s2766695959194262286x5), none, (.seq #[] 0), #[]⟩
noncomputable def o276_3 (P : Params) : Obj := ⟨(.type PySem.W.SL.s14018661285674007319x4), none, (.dict #[⟨(kh P s18), (.str s18 430), (.str s23 299)⟩, ⟨(kh P s20), (.str s20 434), (.int 84 433)⟩, ⟨(kh P s66), (.str s66 441), (.ref 211)⟩, ⟨(kh P s67), (.str s67 448), (.ref 218)⟩, ⟨(kh P s39), (.str s39 455), (.ref 225)⟩, ⟨(kh P s68), (.str s68 464), (.ref 232)⟩, ⟨(kh P s69), (.str s69 473), (.ref 239)⟩, ⟨(kh P s58), (.str s58 481), (.ref 246)⟩, ⟨(kh P s59), (.str s59 489), (.ref 253)⟩, ⟨(kh P s70), (.str s70 497), (.ref 260)⟩, ⟨(kh P s71), (.str s71 505), (.ref 267)⟩, ⟨(kh P s72), (.str s72 516), (.ref 274)⟩, ⟨(kh P s21), (.str s21 517), (.ref 275)⟩, ⟨(kh P s5), (.str s5 518), .none⟩] 2), #[]⟩
noncomputable def o277_3 (P : Params) : Obj := ⟨(.type PySem.W.SL.s17162191345867700912x4), none, (.cls ⟨s65, [(.ref 155)], [(.ref 277), (.ref 155), (.ref 127), (.type PySem.W.SL.s2742458400755230247x6)], 276, s65, true, [], [], false, none, false⟩), #[(some (.ref 198)), none, (some (.str s65 423)), (some (.str s65 431)), (some (.builtin PySem.W.SL.s11443829558043349243x14)), (some (.bool true))]⟩
noncomputable def o278_3 (P : Params) : Obj := ⟨(.type PySem.W.SL.s4290257624100764138x5), none, (.fields #[(.ref 277), (.ref 277), (.ref 277)]), #[]⟩
noncomputable def o279_3 (P : Params) : Obj := ⟨(.type PySem.W.SL.s11030030927630378310x26), none, (.fields #[(.builtin PySem.W.SL.s4860613602091757760x24), (.ref 277)]), #[]⟩
noncomputable def o3_4 (P : Params) : Obj := ⟨(.type PySem.W.SL.s14018661285674007319x4), none, (.dict #[⟨(kh P s3), (.str s3 165), (.str s23 299)⟩, ⟨(kh P s5), (.str s5 166), .none⟩, ⟨(kh P s6), (.str s6 167), .none⟩, ⟨(kh P s7), (.str s7 168), (.builtin PySem.W.SL.s7097527257260152453x26)⟩, ⟨(kh P s8), (.str s8 169), .none⟩, ⟨(kh P s9), (.str s9 170), (.ref 6)⟩, ⟨(kh P s10), (.str s10 171), (.ref 4)⟩, ⟨(kh P s11), (.str s11 173), (.str s1 172)⟩, ⟨(kh P s12), (.str s12 174), .none⟩, ⟨(kh P s13), (.str s13 193), (.ref 21)⟩, ⟨(kh P s14), (.str s14 213), (.ref 31)⟩, ⟨(kh P s15), (.str s15 229), (.ref 44)⟩, ⟨(kh P s16), (.str s16 245), (.ref 56)⟩, ⟨(kh P s24), (.str s24 261), (.ref 68)⟩, ⟨(kh P s25), (.str s25 270), (.ref 77)⟩, ⟨(kh P s26), (.str s26 281), (.ref 84)⟩, ⟨(kh P s27), (.str s27 290), (.ref 91)⟩, ⟨(kh P s28), (.str s28 298), (.ref 98)⟩, ⟨(kh P s29), (.str s29 302), (.str s30 301)⟩, ⟨(kh P s31), (.str s31 304), (.int 30 303)⟩, ⟨(kh P s32), (.str s32 306), (.int 1000000 305)⟩, ⟨(kh P s33), (.str s33 312), (.ref 103)⟩, ⟨(kh P s34), (.str s34 319), (.ref 110)⟩, ⟨(kh P s35), (.str s35 326), (.ref 117)⟩, ⟨(kh P s36), (.str s36 346), (.ref 127)⟩, ⟨(kh P s51), (.str s51 376), (.ref 155)⟩, ⟨(kh P s52), (.str s52 422), (.ref 195)⟩, ⟨(kh P s65), (.str s65 520), (.ref 277)⟩, ⟨(kh P s85), (.str s85 625), (.ref 366)⟩] 29), #[]⟩
noncomputable def o12_4 (P : Params) : Obj := ⟨.none, none, (.fields #[(.int 1 0), (.int 0 0), (.ref 20), (.int 5 0), (.int 0 0), (.ref 27), (.int 7 0), (.int 0 0), (.ref 40), (.int 9 0), (.int 0 0), (.ref 52), (.int 11 0), (.int 0 0), (.ref 64), (.int 14 0), (.int 0 0), (.ref 76), (.int 16 0), (.int 0 0), (.ref 83), (.int 24 0), (.int 0 0), (.ref 90), (.int 33 0), (.int 0 0), (.ref 97), (.int 46 0), (.int 0 0), (.ref 102), (.int 55 0), (.int 0 0), (.ref 109), (.int 59 0), (.int 0 0), (.ref 116), (.int 62 0), (.int 0 0), (.ref 123), (.int 64 0), (.int 0 0), (.ref 137), (.int 71 0), (.int 0 0), (.ref 163), (.int 84 0), (.int 0 0), (.ref 203), (.int 127 0), (.int 0 0), (.ref 285)]), #[]⟩
noncomputable def o155_4 (P : Params) : Obj := ⟨(.type PySem.W.SL.s17162191345867700912x4), none, (.cls ⟨s51, [(.ref 127)], [(.ref 155), (.ref 127), (.type PySem.W.SL.s2742458400755230247x6)], 154, s51, true, [], [(.ref 277), (.ref 366)], false, none, false⟩), #[(some (.ref 132)), none, (some (.str s51 347)), (some (.str s51 355)), (some (.builtin PySem.W.SL.s11443829558043349243x14)), (some (.bool true))]⟩
noncomputable def o280_4 (P : Params) : Obj := ⟨(.type PySem.W.SL.s2766695959194262286x5), none, (.seq #[(.ref 155)] 0), #[]⟩
noncomputable def o281_4 (P : Params) : Obj := ⟨(.type PySem.W.SL.s11030030927630378310x26), none, (.fields #[(.builtin PySem.W.SL.s10062305145149207511x16), (.type PySem.W.SL.s17162191345867700912x4)]), #[]⟩
noncomputable def o282_4 (P : Params) : Obj := ⟨(.type PySem.W.SL.s14018661285674007319x4), none, (.dict #[⟨(kh P s18), (.str s18 528), (.str s23 299)⟩, ⟨(kh P s19), (.str s19 530), (.str s85 529)⟩, ⟨(kh P s20), (.str s20 532), (.int 127 531)⟩, ⟨(kh P s86), (.str s86 540), (.ref 293)⟩, ⟨(kh P s66), (.str s66 547), (.ref 300)⟩, ⟨(kh P s67), (.str s67 554), (.ref 307)⟩, ⟨(kh P s39), (.str s39 561), (.ref 314)⟩, ⟨(kh P s68), (.str s68 570), (.ref 321)⟩, ⟨(kh P s69), (.str s69 579), (.ref 328)⟩, ⟨(kh P s58), (.str s58 587), (.ref 335)⟩, ⟨(kh P s59), (.str s59 595), (.ref 342)⟩, ⟨(kh P s70), (.str s70 603), (.ref 349)⟩, ⟨(kh P s71), (.str s71 611), (.ref 356)⟩, ⟨(kh P s72), (.str s72 620), (.ref 363)⟩, ⟨(kh P s21), (.str s21 622), (.ref 364)⟩] 15), #[]⟩
noncomputable def o283_4 (P : Params) : Obj := ⟨(.type PySem.W.SL.s2766695959194262286x5), none, (.seq #[] 0), #[]⟩
noncomputable def o284_4 (P : Params) : Obj := ⟨.none, none, (.fields #[(.int 129 0), (.int 4 0), (.ref 292), (.int 134 0), (.int 4 0), (.ref 299), (.int 137 0), (.int 4 0), (.ref 306), (.int 140 0), (.int 4 0), (.ref 313), (.int 143 0), (.int 4 0), (.ref 320), (.int 146 0), (.int 4 0), (.ref 327), (.int 149 0), (.int 4 0), (.ref 334), (.int 152 0), (.int 4 0), (.ref 341), (.int 155 0), (.int 4 0), (.ref 348), (.int 158 0), (.int 4 0), (.ref 355), (.int 161 0), (.int 4 0), (.ref 362)]), #[]⟩
noncomputable def o285_4 (P : Params) : Obj := ⟨(.type PySem.W.SL.s5856160107412720595x4), none, (.fields #[(.str s85 523), (.str s85 524), (.str s1 525), (.int 127 0), (.int 0 0), (.int 0 0), (.int 0 0), (.int 0 0), (.ref 283), (.bool false), (.int 181 0), (.ref 284), .none, .none, .none, .none, (.int 526 0), (.int 127 0), (.str s1 527)]), #[]⟩
noncomputable def o286_4 (P : Params) : Obj := ⟨(.type PySem.W.SL.s658472552662922059x5), none, .plain, #[(some (.ref 285)), (some (.ref 3)), (some (.ref 282)), none, (some (.str s23 299)), none, (some (.ref 0))]⟩
noncomputable def o287_4 (P : Params) : Obj := ⟨(.type PySem.W.SL.s2766695959194262286x5), none, (.seq #[] 0), #[]⟩
noncomputable def o288_4 (P : Params) : Obj := ⟨.none, none, (.fields #[]), #[]⟩
noncomputable def o289_4 (P : Params) : Obj := ⟨(.type PySem.W.SL.s2766695959194262286x5), none, (.seq #[(.str s55 536), (.str s87 537)] 0), #[]⟩
noncomputable def o290_4 (P : Params) : Obj := ⟨(.type PySem.W.SL.s2766695959194262286x5), none, (.seq #[] 0), #[]⟩
noncomputable def o291_4 (P : Params) : Obj := ⟨.none, none, (.func ⟨s86, s88, (L2.defArgs (L2.inClass (topT 22) 0)), (.stmts (L2.defBody (L2.inClass (topT 22) 0))), (L2.defScope (L2.inClass (topT 22) 0)), 0, [], .none, .none, .none, .none, none, .none, .none, 0⟩), #[]⟩
noncomputable def o292_4 (P : Params) : Obj := ⟨(.type PySem.W.SL.s5856160107412720595x4), none, (.fields #[(.str s86 533), (.str s88 534), (.str s1 535), (.int 129 0), (.int 2 0), (.int 0 0), (.int 0 0), (.int 3 0), (.ref 287), (.bool true), (.int 181 0), (.ref 288), .none, (.ref 289), (.ref 290), (.ref 291), (.int 538 0), (.int 129 0), (.str s1 539)]), #[]⟩
noncomputable def o293_4 (P : Params) : Obj := ⟨(.type PySem.W.SL.s7174869446012820540x8), none, (.func ⟨s86, s88, (L2.defArgs (L2.inClass (topT 22) 0)), (.stmts (L2.defBody (L2.inClass (topT 22) 0))), (L2.defScope (L2.inClass (topT 22) 0)), 3, [], .none, .none, .none, (.str s23 299), none, (.ref 292), .none, 0⟩), #[]⟩
noncomputable def o294_4 (P : Params) : Obj := ⟨(.type PySem.W.SL.s2766695959194262286x5), none, (.seq #[] 0), #[]⟩
noncomputable def o295_4 (P : Params) : Obj := ⟨.none, none, (.fields #[]), #[]⟩
noncomputable def o296_4 (P : Params) : Obj := ⟨(.type PySem.W.SL.s2766695959194262286x5), none, (.seq #[(.str s55 544)] 0), #[]⟩
noncomputable def o297_4 (P : Params) : Obj := ⟨(.type PySem.W.SL.s2766695959194262286x5), none, (.seq #[] 0), #[]⟩
noncomputable def o298_4 (P : Params) : Obj := ⟨.none, none, (.func ⟨s66, s89, (L2.defArgs (L2.inClass (topT 22) 1)), (.stmts (L2.defBody (L2.inClass (topT 22) 1))), (L2.defScope (L2.inClass (topT 22) 1)), 0, [], .none, .none, .none, .none, none, .none, .none, 0⟩), #[]⟩
noncomputable def o299_4 (P : Params) : Obj := ⟨(.type PySem.W.SL.s5856160107412720595x4), none, (.fields #[(.str s66 541), (.str s89 542), (.str s1 543), (.int 134 0), (.int 1 0), (.int 0 0), (.int 0 0), (.int 3 0), (.ref 294), (.bool true), (.int 181 0), (.ref 295), .none, (.ref 296), (.ref 297), (.ref 298), (.int 545 0), (.int 134 0), (.str s1 546)]), #[]⟩
noncomputable def o300_4 (P : Params) : Obj := ⟨(.type PySem.W.SL.s7174869446012820540x8), none, (.func ⟨s66, s89, (L2.defArgs (L2.inClass (topT 22) 1)), (.stmts (L2.defBody (L2.inClass (topT 22) 1))), (L2.defScope (L2.inClass (topT 22) 1)), 3, [], .none, .none, .none, (.str s23 299), none, (.ref 299), .none, 0⟩), #[]⟩
noncomputable def o301_4 (P : Params) : Obj := ⟨(.type PySem.W.SL.s2766695959194262286x5), none, (.seq #[] 0), #[]⟩
noncomputable def o302_4 (P : Params) : Obj := ⟨.none, none, (.fields #[]), #[]⟩
noncomputable def o303_4 (P : Params) : Obj := ⟨(.type PySem.W.SL.s2766695959194262286x5), none, (.seq #[(.str s55 551)] 0), #[]⟩
noncomputable def o304_4 (P : Params) : Obj := ⟨(.type PySem.W.SL.s2766695959194262286x5), none, (.seq #[] 0), #[]⟩
noncomputable def o305_4 (P : Params) : Obj := ⟨.none, none, (.func ⟨s67, s90, (L2.defArgs (L2.inClass (topT 22) 2)), (.stmts (L2.defBody (L2.inClass (topT 22) 2))), (L2.defScope (L2.inClass (topT 22) 2)), 0, [], .none, .none, .none, .none, none, .none, .none, 0⟩), #[]⟩
noncomputable def o306_4 (P : Params) : Obj := ⟨(.type PySem.W.SL.s5856160107412720595x4), none, (.fields #[(.str s67 548), (.str s90 549), (.str s1 550), (.int 137 0), (.int 1 0), (.int 0 0), (.int 0 0), (.int 3 0), (.ref 301), (.bool true), (.int 181 0), (.ref 302), .none, (.ref 303), (.ref 304), (.ref 305), (.int 552 0), (.int 137 0), (.str s1 553)]), #[]⟩
noncomputable def o307_4 (P : Params) : Obj := ⟨(.type PySem.W.SL.s7174869446012820540x8), none, (.func ⟨s67, s90, (L2.defArgs (L2.inClass (topT 22) 2)), (.stmts (L2.defBody (L2.inClass (topT 22) 2))), (L2.defScope (L2.inClass (topT 22) 2)), 3, [], .none, .none, .none, (.str s23 299), none, (.ref 306), .none, 0⟩), #[]⟩
noncomputable def o308_4 (P : Params) : Obj := ⟨(.type PySem.W.SL.s2766695959194262286x5), none, (.seq #[] 0), #[]⟩
noncomputable def o309_4 (P : Params) : Obj := ⟨.none, none, (.fields #[]), #[]⟩
noncomputable def o310_4 (P : Params) : Obj := ⟨(.type PySem.W.SL.s2766695959194262286x5), none, (.seq #[(.str s55 558)] 0), #[]⟩
noncomputable def o311_4 (P : Params) : Obj := ⟨(.type PySem.W.SL.s2766695959194262286x5), none, (.seq #[] 0), #[]⟩
noncomputable def o312_4 (P : Params) : Obj := ⟨.none, none, (.func ⟨s39, s91, (L2.defArgs (L2.inClass (topT 22) 3)), (.stmts (L2.defBody (L2.inClass (topT 22) 3))), (L2.defScope (L2.inClass (topT 22) 3)), 0, [], .none, .none, .none, .none, none, .none, .none, 0⟩), #[]⟩
noncomputable def o313_4 (P : Params) : Obj := ⟨(.type PySem.W.SL.s5856160107412720595x4), none, (.fields #[(.str s39 555), (.str s91 556), (.str s1 557), (.int 140 0), (.int 1 0), (.int 0 0), (.int 0 0), (.int 3 0), (.ref 308), (.bool true), (.int 181 0), (.ref 309), .none, (.ref 310), (.ref 311), (.ref 312), (.int 559 0), (.int 140 0), (.str s1 560)]), #[]⟩
noncomputable def o314_4 (P : Params) : Obj := ⟨(.type PySem.W.SL.s7174869446012820540x8), none, (.func ⟨s39, s91, (L2.defArgs (L2.inClass (topT 22) 3)), (.stmts (L2.defBody (L2.inClass (topT 22) 3))), (L2.defScope (L2.inClass (topT 22) 3)), 3, [], .none, .none, .none, (.str s23 299), none, (.ref 313), .none, 0⟩), #[]⟩
noncomputable def o315_4 (P : Params) : Obj := ⟨(.type PySem.W.SL.s2766695959194262286x5), none, (.seq #[] 0), #[]⟩
noncomputable def o316_4 (P : Params) : Obj := ⟨.none, none, (.fields #[]), #[]⟩
noncomputable def o317_4 (P : Params) : Obj := ⟨(.type PySem.W.SL.s2766695959194262286x5), none, (.seq #[(.str s55 565), (.str s62 566), (.str s76 567)] 0), #[]⟩
noncomputable def o318_4 (P : Params) : Obj := ⟨(.type PySem.W.SL.s2766695959194262286x5), none, (.seq #[] 0), #[]⟩
noncomputable def o319_4 (P : Params) : Obj := ⟨.none, none, (.func ⟨s68, s92, (L2.defArgs (L2.inClass (topT 22) 4)), (.stmts (L2.defBody (L2.inClass (topT 22) 4))), (L2.defScope (L2.inClass (topT 22) 4)), 0, [], .none, .none, .none, .none, none, .none, .none, 0⟩), #[]⟩
noncomputable def o320_4 (P : Params) : Obj := ⟨(.type PySem.W.SL.s5856160107412720595x4), none, (.fields #[(.str s68 562), (.str s92 563), (.str s1 564), (.int 143 0), (.int 3 0), (.int 0 0), (.int 0 0), (.int 3 0), (.ref 315), (.bool true), (.int 181 0), (.ref 316), .none, (.ref 317), (.ref 318), (.ref 319), (.int 568 0), (.int 143 0), (.str s1 569)]), #[]⟩
noncomputable def o321_4 (P : Params) : Obj := ⟨(.type PySem.W.SL.s7174869446012820540x8), none, (.func ⟨s68, s92, (L2.defArgs (L2.inClass (topT 22) 4)), (.stmts (L2.defBody (L2.inClass (topT 22) 4))), (L2.defScope (L2.inClass (topT 22) 4)), 3, [], .none, .none, .none, (.str s23 299), none, (.ref 320), .none, 0⟩), #[]⟩
noncomputable def o322_4 (P : Params) : Obj := ⟨(.type PySem.W.SL.s2766695959194262286x5), none, (.seq #[] 0), #[]⟩
noncomputable def o323_4 (P : Params) : Obj := ⟨.none, none, (.fields #[]), #[]⟩
noncomputable def o324_4 (P : Params) : Obj := ⟨(.type PySem.W.SL.s2766695959194262286x5), none, (.seq #[(.str s55 574), (.str s62 575), (.str s76 576)] 0), #[]⟩
noncomputable def o325_4 (P : Params) : Obj := ⟨(.type PySem.W.SL.s2766695959194262286x5), none, (.seq #[] 0), #[]⟩
noncomputable def o326_4 (P : Params) : Obj := ⟨.none, none, (.func ⟨s69, s93, (L2.defArgs (L2.inClass (topT 22) 5)), (.stmts (L2.defBody (L2.inClass (topT 22) 5))), (L2.defScope (L2.inClass (topT 22) 5)), 0, [], .none, .none, .none, .none, none, .none, .none, 0⟩), #[]⟩
noncomputable def o327_4 (P : Params) : Obj := ⟨(.type PySem.W.SL.s5856160107412720595x4), none, (.fields #[(.str s69 571), (.str s93 572), (.str s1 573), (.int 146 0), (.int 3 0), (.int 0 0), (.int 0 0), (.int 3 0), (.ref 322), (.bool true), (.int 181 0), (.ref 323), .none, (.ref 324), (.ref 325), (.ref 326), (.int 577 0), (.int 146 0), (.str s1 578)]), #[]⟩
noncomputable def o328_4 (P : Params) : Obj := ⟨(.type PySem.W.SL.s7174869446012820540x8), none, (.func ⟨s69, s93, (L2.defArgs (L2.inClass (topT 22) 5)), (.stmts (L2.defBody (L2.inClass (topT 22) 5))), (L2.defScope (L2.inClass (topT 22) 5)), 3, [], .none, .none, .none, (.str s23 299), none, (.ref 327), .none, 0⟩), #[]⟩
noncomputable def o329_4 (P : Params) : Obj := ⟨(.type PySem.W.SL.s2766695959194262286x5), none, (.seq #[] 0), #[]⟩
noncomputable def o330_4 (P : Params) : Obj := ⟨.none, none, (.fields #[]), #[]⟩
noncomputable def o331_4 (P : Params) : Obj := ⟨(.type PySem.W.SL.s2766695959194262286x5), none, (.seq #[(.str s55 583), (.str s62 584)] 0), #[]⟩
noncomputable def o332_4 (P : Params) : Obj := ⟨(.type PySem.W.SL.s2766695959194262286x5), none, (.seq #[] 0), #[]⟩
noncomputable def o333_4 (P : Params) : Obj := ⟨.none, none, (.func ⟨s58, s94, (L2.defArgs (L2.inClass (topT 22) 6)), (.stmts (L2.defBody (L2.inClass (topT 22) 6))), (L2.defScope (L2.inClass (topT 22) 6)), 0, [], .none, .none, .none, .none, none, .none, .none, 0⟩), #[]⟩
noncomputable def o334_4 (P : Params) : Obj := ⟨(.type PySem.W.SL.s5856160107412720595x4), none, (.fields #[(.str s58 580), (.str s94 581), (.str s1 582), (.int 149 0), (.int 2 0), (.int 0 0), (.int 0 0), (.int 3 0), (.ref 329), (.bool true), (.int 181 0), (.ref 330), .none, (.ref 331), (.ref 332), (.ref 333), (.int 585 0), (.int 149 0), (.str s1 586)]), #[]⟩
noncomputable def o335_4 (P : Params) : Obj := ⟨(.type PySem.W.SL.s7174869446012820540x8), none, (.func ⟨s58, s94, (L2.defArgs (L2.inClass (topT 22) 6)), (.stmts (L2.defBody (L2.inClass (topT 22) 6))), (L2.defScope (L2.inClass (topT 22) 6)), 3, [], .none, .none, .none, (.str s23 299), none, (.ref 334), .none, 0⟩), #[]⟩
noncomputable def o336_4 (P : Params) : Obj := ⟨(.type PySem.W.SL.s2766695959194262286x5), none, (.seq #[] 0), #[]⟩
noncomputable def o337_4 (P : Params) : Obj := ⟨.none, none, (.fields #[]), #[]⟩
noncomputable def o338_4 (P : Params) : Obj := ⟨(.type PySem.W.SL.s2766695959194262286x5), none, (.seq #[(.str s55 591), (.str s62 592)] 0), #[]⟩
noncomputable def o339_4 (P : Params) : Obj := ⟨(.type PySem.W.SL.s2766695959194262286x5), none, (.seq #[] 0), #[]⟩
noncomputable def o340_4 (P : Params) : Obj := ⟨.none, none, (.func ⟨s59, s95, (L2.defArgs (L2.inClass (topT 22) 7)), (.stmts (L2.defBody (L2.inClass (topT 22) 7))), (L2.defScope (L2.inClass (topT 22) 7)), 0, [], .none, .none, .none, .none, none, .none, .none, 0⟩), #[]⟩
noncomputable def o341_4 (P : Params) : Obj := ⟨(.type PySem.W.SL.s5856160107412720595x4), none, (.fields #[(.str s59 588), (.str s95 589), (.str s1 590), (.int 152 0), (.int 2 0), (.int 0 0), (.int 0 0), (.int 3 0), (.ref 336), (.bool true), (.int 181 0), (.ref 337), .none, (.ref 338), (.ref 339), (.ref 340), (.int 593 0), (.int 152 0), (.str s1 594)]), #[]⟩
noncomputable def o342_4 (P : Params) : Obj := ⟨(.type PySem.W.SL.s7174869446012820540x8), none, (.func ⟨s59, s95, (L2.defArgs (L2.inClass (topT 22) 7)), (.stmts (L2.defBody (L2.inClass (topT 22) 7))), (L2.defScope (L2.inClass (topT 22) 7)), 3, [], .none, .none, .none, (.str s23 299), none, (.ref 341), .none, 0⟩), #[]⟩
noncomputable def o343_4 (P : Params) : Obj := ⟨(.type PySem.W.SL.s2766695959194262286x5), none, (.seq #[] 0), #[]⟩
noncomputable def o344_4 (P : Params) : Obj := ⟨.none, none, (.fields #[]), #[]⟩
noncomputable def o345_4 (P : Params) : Obj := ⟨(.type PySem.W.SL.s2766695959194262286x5), none, (.seq #[(.str s55 599), (.str s37 600)] 0), #[]⟩
noncomputable def o346_4 (P : Params) : Obj := ⟨(.type PySem.W.SL.s2766695959194262286x5), none, (.seq #[] 0), #[]⟩
noncomputable def o347_4 (P : Params) : Obj := ⟨.none, none, (.func ⟨s70, s96, (L2.defArgs (L2.inClass (topT 22) 8)), (.stmts (L2.defBody (L2.inClass (topT 22) 8))), (L2.defScope (L2.inClass (topT 22) 8)), 0, [], .none, .none, .none, .none, none, .none, .none, 0⟩), #[]⟩
noncomputable def o348_4 (P : Params) : Obj := ⟨(.type PySem.W.SL.s5856160107412720595x4), none, (.fields #[(.str s70 596), (.str s96 597), (.str s1 598), (.int 155 0), (.int 2 0), (.int 0 0), (.int 0 0), (.int 3 0), (.ref 343), (.bool true), (.int 181 0), (.ref 344), .none, (.ref 345), (.ref 346), (.ref 347), (.int 601 0), (.int 155 0), (.str s1 602)]), #[]⟩
noncomputable def o349_4 (P : Params) : Obj := ⟨(.type PySem.W.SL.s7174869446012820540x8), none, (.func ⟨s70, s96, (L2.defArgs (L2.inClass (topT 22) 8)), (.stmts (L2.defBody (L2.inClass (topT 22) 8))), (L2.defScope (L2.inClass (topT 22) 8)), 3, [], .none, .none, .none, (.str s23 299), none, (.ref 348), .none, 0⟩), #[]⟩
noncomputable def o350_4 (P : Params) : Obj := ⟨(.type PySem.W.SL.s2766695959194262286x5), none, (.seq #[] 0), #[]⟩
noncomputable def o351_4 (P : Params) : Obj := ⟨.none, none, (.fields #[]), #[]⟩
noncomputable def o352_4 (P : Params) : Obj := ⟨(.type PySem.W.SL.s2766695959194262286x5), none, (.seq #[(.str s55 607), (.str s62 608)] 0), #[]⟩
noncomputable def o353_4 (P : Params) : Obj := ⟨(.type PySem.W.SL.s2766695959194262286x5), none, (.seq #[] 0), #[]⟩
noncomputable def o354_4 (P : Params) : Obj := ⟨.none, none, (.func ⟨s71, s97, (L2.defArgs (L2.inClass (topT 22) 9)), (.stmts (L2.defBody (L2.inClass (topT 22) 9))), (L2.defScope (L2.inClass (topT 22) 9)), 0, [], .none, .none, .none, .none, none, .none, .none, 0⟩), #[]⟩
noncomputable def o355_4 (P : Params) : Obj := ⟨(.type PySem.W.SL.s5856160107412720595x4), none, (.fields #[(.str s71 604), (.str s97 605), (.str s1 606), (.int 158 0), (.int 2 0), (.int 0 0), (.int 0 0), (.int 3 0), (.ref 350), (.bool true), (.int 181 0), (.ref 351), .none, (.ref 352), (.ref 353), (.ref 354), (.int 609 0), (.int 158 0), (.str s1 610)]), #[]⟩
noncomputable def o356_4 (P : Params) : Obj := ⟨(.type PySem.W.SL.s7174869446012820540x8), none, (.func ⟨s71, s97, (L2.defArgs (L2.inClass (topT 22) 9)), (.stmts (L2.defBody (L2.inClass (topT 22) 9))), (L2.defScope (L2.inClass (topT 22) 9)), 3, [], .none, .none, .none, (.str s23 299), none, (.ref 355), .none, 0⟩), #[]⟩
noncomputable def o357_4 (P : Params) : Obj := ⟨(.type PySem.W.SL.s2766695959194262286x5), none, (.seq #[] 0), #[]⟩
noncomputable def o358_4 (P : Params) : Obj := ⟨.none, none, (.fields #[]), #[]⟩
noncomputable def o359_4 (P : Params) : Obj := ⟨(.type PySem.W.SL.s2766695959194262286x5), none, (.seq #[(.str s55 615), (.str s49 616), (.str s47 617)] 0), #[]⟩
noncomputable def o360_4 (P : Params) : Obj := ⟨(.type PySem.W.SL.s2766695959194262286x5), none, (.seq #[] 0), #[]⟩
noncomputable def o361_4 (P : Params) : Obj := ⟨.none, none, (.func ⟨s72, s98, (L2.defArgs (L2.inClass (topT 22) 10)), (.stmts (L2.defBody (L2.inClass (topT 22) 10))), (L2.defScope (L2.inClass (topT 22) 10)), 0, [], .none, .none, .none, .none, none, .none, .none, 0⟩), #[]⟩
noncomputable def o362_4 (P : Params) : Obj := ⟨(.type PySem.W.SL.s5856160107412720595x4), none, (.fields #[(.str s72 612), (.str s98 613), (.str s1 614), (.int 161 0), (.int 2 0), (.int 0 0), (.int 0 0), (.int 3 0), (.ref 357), (.bool true), (.int 181 0), (.ref 358), .none, (.ref 359), (.ref 360), (.ref 361), (.int 618 0), (.int 161 0), (.str s1 619)]), #[]⟩
noncomputable def o363_4 (P : Params) : Obj := ⟨(.type PySem.W.SL.s7174869446012820540x8), none, (.func ⟨s72, s98, (L2.defArgs (L2.inClass (topT 22) 10)), (.stmts (L2.defBody (L2.inClass (topT 22) 10))), (L2.defScope (L2.inClass (topT 22) 10)), 3, [], .none, .none, .none, (.str s23 299), none, (.ref 362), .none, 0⟩), #[]⟩
noncomputable def o364_4 (P : Params) : Obj := ⟨(.type PySem.W.SL.s2766695959194262286x5), none, (.seq #[(.str s87 621)] 0), #[]⟩
noncomputable def o365_4 (P : Params) : Obj := ⟨(.type PySem.W.SL.s14018661285674007319x4), none, (.dict #[⟨(kh P s18), (.str s18 528), (.str s23 299)⟩, ⟨(kh P s20), (.str s20 532), (.int 127 531)⟩, ⟨(kh P s86), (.str s86 540), (.ref 293)⟩, ⟨(kh P s66), (.str s66 547), (.ref 300)⟩, ⟨(kh P s67), (.str s67 554), (.ref 307)⟩, ⟨(kh P s39), (.str s39 561), (.ref 314)⟩, ⟨(kh P s68), (.str s68 570), (.ref 321)⟩, ⟨(kh P s69), (.str s69 579), (.ref 328)⟩, ⟨(kh P s58), (.str s58 587), (.ref 335)⟩, ⟨(kh P s59), (.str s59 595), (.ref 342)⟩, ⟨(kh P s70), (.str s70 603), (.ref 349)⟩, ⟨(kh P s71), (.str s71 611), (.ref 356)⟩, ⟨(kh P s72), (.str s72 620), (.ref 363)⟩, ⟨(kh P s21), (.str s21 622), (.ref 364)⟩, ⟨(kh P s5), (.str s5 623), .none⟩] 2), #[]⟩
noncomputable def o366_4 (P : Params) : Obj := ⟨(.type PySem.W.SL.s17162191345867700912x4), none, (.cls ⟨s85, [(.ref 155)], [(.ref 366), (.ref 155), (.ref 127), (.type PySem.W.SL.s2742458400755230247x6)], 365, s85, true, [], [], false, none, false⟩), #[(some (.ref 280)), none, (some (.str s85 521)), (some (.str s85 529)), (some (.builtin PySem.W.SL.s11443829558043349243x14)), (some (.bool true))]⟩
noncomputable def o367_4 (P : Params) : Obj := ⟨(.type PySem.W.SL.s4290257624100764138x5), none, (.fields #[(.ref 366), (.ref 366), (.ref 366)]), #[]⟩
noncomputable def o368_4 (P : Params) : Obj := ⟨(.type PySem.W.SL.s11030030927630378310x26), none, (.fields #[(.builtin PySem.W.SL.s4860613602091757760x24), (.ref 366)]), #[]⟩
noncomputable def o3_5 (P : Params) : Obj := ⟨(.type PySem.W.SL.s14018661285674007319x4), none, (.dict #[⟨(kh P s3), (.str s3 165), (.str s23 299)⟩, ⟨(kh P s5), (.str s5 166), .none⟩, ⟨(kh P s6), (.str s6 167), .none⟩, ⟨(kh P s7), (.str s7 168), (.builtin PySem.W.SL.s7097527257260152453x26)⟩, ⟨(kh P s8), (.str s8 169), .none⟩, ⟨(kh P s9), (.str s9 170), (.ref 6)⟩, ⟨(kh P s10), (.str s10 171), (.ref 4)⟩, ⟨(kh P s11), (.str s11 173), (.str s1 172)⟩, ⟨(kh P s12), (.str s12 174), .none⟩, ⟨(kh P s13), (.str s13 193), (.ref 21)⟩, ⟨(kh P s14), (.str s14 213), (.ref 31)⟩, ⟨(kh P s15), (.str s15 229), (.ref 44)⟩, ⟨(kh P s16), (.str s16 245), (.ref 56)⟩, ⟨(kh P s24), (.str s24 261), (.ref 68)⟩, ⟨(kh P s25), (.str s25 270), (.ref 77)⟩, ⟨(kh P s26), (.str s26 281), (.ref 84)⟩, ⟨(kh P s27), (.str s27 290), (.ref 91)⟩, ⟨(kh P s28), (.str s28 298), (.ref 98)⟩, ⟨(kh P s29), (.str s29 302), (.str s30 301)⟩, ⟨(kh P s31), (.str s31 304), (.int 30 303)⟩, ⟨(kh P s32), (.str s32 306), (.int 1000000 305)⟩, ⟨(kh P s33), (.str s33 312), (.ref 103)⟩, ⟨(kh P s34), (.str s34 319), (.ref 110)⟩, ⟨(kh P s35), (.str s35 326), (.ref 117)⟩, ⟨(kh P s36), (.str s36 346), (.ref 127)⟩, ⟨(kh P s51), (.str s51 376), (.ref 155)⟩, ⟨(kh P s52), (.str s52 422), (.ref 195)⟩, ⟨(kh P s65), (.str s65 520), (.ref 277)⟩, ⟨(kh P s85), (.str s85 625), (.ref 366)⟩, ⟨(kh P s99), (.str s99 704), (.ref 434)⟩] 30), #[]⟩
noncomputable def o12_5 (P : Params) : Obj := ⟨.none, none, (.fields #[(.int 1 0), (.int 0 0), (.ref 20), (.int 5 0), (.int 0 0), (.ref 27), (.int 7 0), (.int 0 0), (.ref 40), (.int 9 0), (.int 0 0), (.ref 52), (.int 11 0), (.int 0 0), (.ref 64), (.int 14 0), (.int 0 0), (.ref 76), (.int 16 0), (.int 0 0), (.ref 83), (.int 24 0), (.int 0 0), (.ref 90), (.int 33 0), (.int 0 0), (.ref 97), (.int 46 0), (.int 0 0), (.ref 102), (.int 55 0), (.int 0 0), (.ref 109), (.int 59 0), (.int 0 0), (.ref 116), (.int 62 0), (.int 0 0), (.ref 123), (.int 64 0), (.int 0 0), (.ref 137), (.int 71 0), (.int 0 0), (.ref 163), (.int 84 0), (.int 0 0), (.ref 203), (.int 127 0), (.int 0 0), (.ref 285), (.int 166 0), (.int 0 0), (.ref 374)]), #[]⟩
noncomputable def o195_5 (P : Params) : Obj := ⟨(.type PySem.W.SL.s17162191345867700912x4), none, (.cls ⟨s52, [(.ref 127)], [(.ref 195), (.ref 127), (.type PySem.W.SL.s2742458400755230247x6)], 194, s52, true, [], [(.ref 434)], false, none, false⟩), #[(some (.ref 158)), none, (some (.str s52 377)), (some (.str s52 385)), (some (.builtin PySem.W.SL.s11443829558043349243x14)), (some (.bool true))]⟩
noncomputable def o369_5 (P : Params) : Obj := ⟨(.type PySem.W.SL.s2766695959194262286x5), none, (.seq #[(.ref 195)] 0), #[]⟩
noncomputable def o370_5 (P : Params) : Obj := ⟨(.type PySem.W.SL.s11030030927630378310x26), none, (.fields #[(.builtin PySem.W.SL.s10062305145149207511x16), (.type PySem.W.SL.s17162191345867700912x4)]), #[]⟩
noncomputable def o371_5 (P : Params) : Obj := ⟨(.type PySem.W.SL.s14018661285674007319x4), none, (.dict #[⟨(kh P s18), (.str s18 633), (.str s23 299)⟩, ⟨(kh P s19), (.str s19 635), (.str s99 634)⟩, ⟨(kh P s20), (.str s20 637), (.int 166 636)⟩, ⟨(kh P s66), (.str s66 644), (.ref 382)⟩, ⟨(kh P s67), (.str s67 651), (.ref 389)⟩, ⟨(kh P s39), (.str s39 658), (.ref 396)⟩, ⟨(kh P s68), (.str s68 667), (.ref 403)⟩, ⟨(kh P s69), (.str s69 676), (.ref 410)⟩, ⟨(kh P s70), (.str s70 684), (.ref 417)⟩, ⟨(kh P s71), (.str s71 692), (.ref 424)⟩, ⟨(kh P s72), (.str s72 700), (.ref 431)⟩, ⟨(kh P s21), (.str s21 701), (.ref 432)⟩] 12), #[]⟩
noncomputable def o372_5 (P : Params) : Obj := ⟨(.type PySem.W.SL.s2766695959194262286x5), none, (.seq #[] 0), #[]⟩
noncomputable def o373_5 (P : Params) : Obj := ⟨.none, none, (.fields #[(.int 168 0), (.int 4 0), (.ref 381), (.int 171 0), (.int 4 0), (.ref 388), (.int 174 0), (.int 4 0), (.ref 395), (.int 177 0), (.int 4 0), (.ref 402), (.int 184 0), (.int 4 0), (.ref 409), (.int 189 0), (.int 4 0), (.ref 416), (.int 192 0), (.int 4 0), (.ref 423), (.int 195 0), (.int 4 0), (.ref 430)]), #[]⟩
noncomputable def o374_5 (P : Params) : Obj := ⟨(.type PySem.W.SL.s5856160107412720595x4), none, (.fields #[(.str s99 628), (.str s99 629), (.str s1 630), (.int 166 0), (.int 0 0), (.int 0 0), (.int 0 0), (.int 0 0), (.ref 372), (.bool false), (.int 181 0), (.ref 373), .none, .none, .none, .none, (.int 631 0), (.int 166 0), (.str s1 632)]), #[]⟩
noncomputable def o375_5 (P : Params) : Obj := ⟨(.type PySem.W.SL.s658472552662922059x5), none, .plain, #[(some (.ref 374)), (some (.ref 3)), (some (.ref 371)), none, (some (.str s23 299)), none, (some (.ref 0))]⟩
noncomputable def o376_5 (P : Params) : Obj := ⟨(.type PySem.W.SL.s2766695959194262286x5), none, (.seq #[] 0), #[]⟩
noncomputable def o377_5 (P : Params) : Obj := ⟨.none, none, (.fields #[]), #[]⟩
noncomputable def o378_5 (P : Params) : Obj := ⟨(.type PySem.W.SL.s2766695959194262286x5), none, (.seq #[(.str s55 641)] 0), #[]⟩
noncomputable def o379_5 (P : Params) : Obj := ⟨(.type PySem.W.SL.s2766695959194262286x5), none, (.seq #[] 0), #[]⟩
noncomputable def o380_5 (P : Params) : Obj := ⟨.none, none, (.func ⟨s66, s100, (L2.defArgs (L2.inClass (topT 23) 0)), (.stmts (L2.defBody (L2.inClass (topT 23) 0))), (L2.defScope (L2.inClass (topT 23) 0)), 0, [], .none, .none, .none, .none, none, .none, .none, 0⟩), #[]⟩
noncomputable def o381_5 (P : Params) : Obj := ⟨(.type PySem.W.SL.s5856160107412720595x4), none, (.fields #[(.str s66 638), (.str s100 639), (.str s1 640), (.int 168 0), (.int 1 0), (.int 0 0), (.int 0 0), (.int 3 0), (.ref 376), (.bool true), (.int 181 0), (.ref 377), .none, (.ref 378), (.ref 379), (.ref 380), (.int 642 0), (.int 168 0), (.str s1 643)]), #[]⟩
noncomputable def o382_5 (P : Params) : Obj := ⟨(.type PySem.W.SL.s7174869446012820540x8), none, (.func ⟨s66, s100, (L2.defArgs (L2.inClass (topT 23) 0)), (.stmts (L2.defBody (L2.inClass (topT 23) 0))), (L2.defScope (L2.inClass (topT 23) 0)), 3, [], .none, .none, .none, (.str s23 299), none, (.ref 381), .none, 0⟩), #[]⟩
noncomputable def o383_5 (P : Params) : Obj := ⟨(.type PySem.W.SL.s2766695959194262286x5), none, (.seq #[] 0), #[]⟩
noncomputable def o384_5 (P : Params) : Obj := ⟨.none, none, (.fields #[]), #[]⟩
noncomputable def o385_5 (P : Params) : Obj := ⟨(.type PySem.W.SL.s2766695959194262286x5), none, (.seq #[(.str s55 648)] 0), #[]⟩
noncomputable def o386_5 (P : Params) : Obj := ⟨(.type PySem.W.SL.s2766695959194262286x5), none, (.seq #[] 0), #[]⟩
noncomputable def o387_5 (P : Params) : Obj := ⟨.none, none, (.func ⟨s67, s101, (L2.defArgs (L2.inClass (topT 23) 1)), (.stmts (L2.defBody (L2.inClass (topT 23) 1))), (L2.defScope (L2.inClass (topT 23) 1)), 0, [], .none, .none, .none, .none, none, .none, .none, 0⟩), #[]⟩
noncomputable def o388_5 (P : Params) : Obj := ⟨(.type PySem.W.SL.s5856160107412720595x4), none, (.fields #[(.str s67 645), (.str s101 646), (.str s1 647), (.int 171 0), (.int 1 0), (.int 0 0), (.int 0 0), (.int 3 0), (.ref 383), (.bool true), (.int 181 0), (.ref 384), .none, (.ref 385), (.ref 386), (.ref 387), (.int 649 0), (.int 171 0), (.str s1 650)]), #[]⟩
noncomputable def o389_5 (P : Params) : Obj := ⟨(.type PySem.W.SL.s7174869446012820540x8), none, (.func ⟨s67, s101, (L2.defArgs (L2.inClass (topT 23) 1)), (.stmts (L2.defBody (L2.inClass (topT 23) 1))), (L2.defScope (L2.inClass (topT 23) 1)), 3, [], .none, .none, .none, (.str s23 299), none, (.ref 388), .none, 0⟩), #[]⟩
noncomputable def o390_5 (P : Params) : Obj := ⟨(.type PySem.W.SL.s2766695959194262286x5), none, (.seq #[] 0), #[]⟩
noncomputable def o391_5 (P : Params) : Obj := ⟨.none, none, (.fields #[]), #[]⟩
noncomputable def o392_5 (P : Params) : Obj := ⟨(.type PySem.W.SL.s2766695959194262286x5), none, (.seq #[(.str s55 655)] 0), #[]⟩
noncomputable def o393_5 (P : Params) : Obj := ⟨(.type PySem.W.SL.s2766695959194262286x5), none, (.seq #[] 0), #[]⟩
noncomputable def o394_5 (P : Params) : Obj := ⟨.none, none, (.func ⟨s39, s102, (L2.defArgs (L2.inClass (topT 23) 2)), (.stmts (L2.defBody (L2.inClass (topT 23) 2))), (L2.defScope (L2.inClass (topT 23) 2)), 0, [], .none, .none, .none, .none, none, .none, .none, 0⟩), #[]⟩
noncomputable def o395_5 (P : Params) : Obj := ⟨(.type PySem.W.SL.s5856160107412720595x4), none, (.fields #[(.str s39 652), (.str s102 653), (.str s1 654), (.int 174 0), (.int 1 0), (.int 0 0), (.int 0 0), (.int 3 0), (.ref 390), (.bool true), (.int 181 0), (.ref 391), .none, (.ref 392), (.ref 393), (.ref 394), (.int 656 0), (.int 174 0), (.str s1 657)]), #[]⟩
noncomputable def o396_5 (P : Params) : Obj := ⟨(.type PySem.W.SL.s7174869446012820540x8), none, (.func ⟨s39, s102, (L2.defArgs (L2.inClass (topT 23) 2)), (.stmts (L2.defBody (L2.inClass (topT 23) 2))), (L2.defScope (L2.inClass (topT 23) 2)), 3, [], .none, .none, .none, (.str s23 299), none, (.ref 395), .none, 0⟩), #[]⟩
noncomputable def o397_5 (P : Params) : Obj := ⟨(.type PySem.W.SL.s2766695959194262286x5), none, (.seq #[] 0), #[]⟩
noncomputable def o398_5 (P : Params) : Obj := ⟨.none, none, (.fields #[]), #[]⟩
noncomputable def o399_5 (P : Params) : Obj := ⟨(.type PySem.W.SL.s2766695959194262286x5), none, (.seq #[(.str s55 662), (.str s62 663), (.str s76 664)] 0), #[]⟩
noncomputable def o400_5 (P : Params) : Obj := ⟨(.type PySem.W.SL.s2766695959194262286x5), none, (.seq #[] 0), #[]⟩
noncomputable def o401_5 (P : Params) : Obj := ⟨.none, none, (.func ⟨s68, s103, (L2.defArgs (L2.inClass (topT 23) 3)), (.stmts (L2.defBody (L2.inClass (topT 23) 3))), (L2.defScope (L2.inClass (topT 23) 3)), 0, [], .none, .none, .none, .none, none, .none, .none, 0⟩), #[]⟩
noncomputable def o402_5 (P : Params) : Obj := ⟨(.type PySem.W.SL.s5856160107412720595x4), none, (.fields #[(.str s68 659), (.str s103 660), (.str s1 661), (.int 177 0), (.int 3 0), (.int 0 0), (.int 0 0), (.int 3 0), (.ref 397), (.bool true), (.int 181 0), (.ref 398), .none, (.ref 399), (.ref 400), (.ref 401), (.int 665 0), (.int 177 0), (.str s1 666)]), #[]⟩
noncomputable def o403_5 (P : Params) : Obj := ⟨(.type PySem.W.SL.s7174869446012820540x8), none, (.func ⟨s68, s103, (L2.defArgs (L2.inClass (topT 23) 3)), (.stmts (L2.defBody (L2.inClass (topT 23) 3))), (L2.defScope (L2.inClass (topT 23) 3)), 3, [], .none, .none, .none, (.str s23 299), none, (.ref 402), .none, 0⟩), #[]⟩
noncomputable def o404_5 (P : Params) : Obj := ⟨(.type PySem.W.SL.s2766695959194262286x5), none, (.seq #[] 0), #[]⟩
noncomputable def o405_5 (P : Params) : Obj := ⟨.none, none, (.fields #[]), #[]⟩
noncomputable def o406_5 (P : Params) : Obj := ⟨(.type PySem.W.SL.s2766695959194262286x5), none, (.seq #[(.str s55 671), (.str s62 672), (.str s76 673)] 0), #[]⟩
noncomputable def o407_5 (P : Params) : Obj := ⟨(.type PySem.W.SL.s2766695959194262286x5), none, (.seq #[] 0), #[]⟩
noncomputable def o408_5 (P : Params) : Obj := ⟨.none, none, (.func ⟨s69, s104, (L2.defArgs (L2.inClass (topT 23) 4)), (.stmts (L2.defBody (L2.inClass (topT 23) 4))), (L2.defScope (L2.inClass (topT 23) 4)), 0, [], .none, .none, .none, .none, none, .none, .none, 0⟩), #[]⟩
noncomputable def o409_5 (P : Params) : Obj := ⟨(.type PySem.W.SL.s5856160107412720595x4), none, (.fields #[(.str s69 668), (.str s104 669), (.str s1 670), (.int 184 0), (.int 3 0), (.int 0 0), (.int 0 0), (.int 3 0), (.ref 404), (.bool true), (.int 181 0), (.ref 405), .none, (.ref 406), (.ref 407), (.ref 408), (.int 674 0), (.int 184 0), (.str s1 675)]), #[]⟩
noncomputable def o410_5 (P : Params) : Obj := ⟨(.type PySem.W.SL.s7174869446012820540x8), none, (.func ⟨s69, s104, (L2.defArgs (L2.inClass (topT 23) 4)), (.stmts (L2.defBody (L2.inClass (topT 23) 4))), (L2.defScope (L2.inClass (topT 23) 4)), 3, [], .none, .none, .none, (.str s23 299), none, (.ref 409), .none, 0⟩), #[]⟩
noncomputable def o411_5 (P : Params) : Obj := ⟨(.type PySem.W.SL.s2766695959194262286x5), none, (.seq #[] 0), #[]⟩
noncomputable def o412_5 (P : Params) : Obj := ⟨.none, none, (.fields #[]), #[]⟩
noncomputable def o413_5 (P : Params) : Obj := ⟨(.type PySem.W.SL.s2766695959194262286x5), none, (.seq #[(.str s55 680), (.str s37 681)] 0), #[]⟩
noncomputable def o414_5 (P : Params) : Obj := ⟨(.type PySem.W.SL.s2766695959194262286x5), none, (.seq #[] 0), #[]⟩
noncomputable def o415_5 (P : Params) : Obj := ⟨.none, none, (.func ⟨s70, s105, (L2.defArgs (L2.inClass (topT 23) 5)), (.stmts (L2.defBody (L2.inClass (topT 23) 5))), (L2.defScope (L2.inClass (topT 23) 5)), 0, [], .none, .none, .none, .none, none, .none, .none, 0⟩), #[]⟩
noncomputable def o416_5 (P : Params) : Obj := ⟨(.type PySem.W.SL.s5856160107412720595x4), none, (.fields #[(.str s70 677), (.str s105 678), (.str s1 679), (.int 189 0), (.int 2 0), (.int 0 0), (.int 0 0), (.int 3 0), (.ref 411), (.bool true), (.int 181 0), (.ref 412), .none, (.ref 413), (.ref 414), (.ref 415), (.int 682 0), (.int 189 0), (.str s1 683)]), #[]⟩
noncomputable def o417_5 (P : Params) : Obj := ⟨(.type PySem.W.SL.s7174869446012820540x8), none, (.func ⟨s70, s105, (L2.defArgs (L2.inClass (topT 23) 5)), (.stmts (L2.defBody (L2.inClass (topT 23) 5))), (L2.defScope (L2.inClass (topT 23) 5)), 3, [], .none, .none, .none, (.str s23 299), none, (.ref 416), .none, 0⟩), #[]⟩
noncomputable def o418_5 (P : Params) : Obj := ⟨(.type PySem.W.SL.s2766695959194262286x5), none, (.seq #[] 0), #[]⟩
noncomputable def o419_5 (P : Params) : Obj := ⟨.none, none, (.fields #[]), #[]⟩
noncomputable def o420_5 (P : Params) : Obj := ⟨(.type PySem.W.SL.s2766695959194262286x5), none, (.seq #[(.str s55 688), (.str s62 689)] 0), #[]⟩
noncomputable def o421_5 (P : Params) : Obj := ⟨(.type PySem.W.SL.s2766695959194262286x5), none, (.seq #[] 0), #[]⟩
noncomputable def o422_5 (P : Params) : Obj := ⟨.none, none, (.func ⟨s71, s106, (L2.defArgs (L2.inClass (topT 23) 6)), (.stmts (L2.defBody (L2.inClass (topT 23) 6))), (L2.defScope (L2.inClass (topT 23) 6)), 0, [], .none, .none, .none, .none, none, .none, .none, 0⟩), #[]⟩
noncomputable def o423_5 (P : Params) : Obj := ⟨(.type PySem.W.SL.s5856160107412720595x4), none, (.fields #[(.str s71 685), (.str s106 686), (.str s1 687), (.int 192 0), (.int 2 0), (.int 0 0), (.int 0 0), (.int 3 0), (.ref 418), (.bool true), (.int 181 0), (.ref 419), .none, (.ref 420), (.ref 421), (.ref 422), (.int 690 0), (.int 192 0), (.str s1 691)]), #[]⟩
noncomputable def o424_5 (P : Params) : Obj := ⟨(.type PySem.W.SL.s7174869446012820540x8), none, (.func ⟨s71, s106, (L2.defArgs (L2.inClass (topT 23) 6)), (.stmts (L2.defBody (L2.inClass (topT 23) 6))), (L2.defScope (L2.inClass (topT 23) 6)), 3, [], .none, .none, .none, (.str s23 299), none, (.ref 423), .none, 0⟩), #[]⟩
noncomputable def o425_5 (P : Params) : Obj := ⟨(.type PySem.W.SL.s2766695959194262286x5), none, (.seq #[] 0), #[]⟩
noncomputable def o426_5 (P : Params) : Obj := ⟨.none, none, (.fields #[]), #[]⟩
noncomputable def o427_5 (P : Params) : Obj := ⟨(.type PySem.W.SL.s2766695959194262286x5), none, (.seq #[(.str s55 696), (.str s49 697)] 0), #[]⟩
noncomputable def o428_5 (P : Params) : Obj := ⟨(.type PySem.W.SL.s2766695959194262286x5), none, (.seq #[] 0), #[]⟩
noncomputable def o429_5 (P : Params) : Obj := ⟨.none, none, (.func ⟨s72, s107, (L2.defArgs (L2.inClass (topT 23) 7)), (.stmts (L2.defBody (L2.inClass (topT 23) 7))), (L2.defScope (L2.inClass (topT 23) 7)), 0, [], .none, .none, .none, .none, none, .none, .none, 0⟩), #[]⟩
noncomputable def o430_5 (P : Params) : Obj := ⟨(.type PySem.W.SL.s5856160107412720595x4), none, (.fields #[(.str s72 693), (.str s107 694), (.str s1 695), (.int 195 0), (.int 2 0), (.int 0 0), (.int 0 0), (.int 3 0), (.ref 425), (.bool true), (.int 181 0), (.ref 426), .none, (.ref 427), (.ref 428), (.ref 429), (.int 698 0), (.int 195 0), (.str s1 699)]), #[]⟩
noncomputable def o431_5 (P : Params) : Obj := ⟨(.type PySem.W.SL.s7174869446012820540x8), none, (.func ⟨s72, s107, (L2.defArgs (L2.inClass (topT 23) 7)), (.stmts (L2.defBody (L2.inClass (topT 23) 7))), (L2.defScope (L2.inClass (topT 23) 7)), 3, [], .none, .none, .none, (.str s23 299), none, (.ref 430), .none, 0⟩), #[]⟩
noncomputable def o432_5 (P : Params) : Obj := ⟨(.type PySem.W.SL.s2766695959194262286x5), none, (.seq #[] 0), #[]⟩
noncomputable def o433_5 (P : Params) : Obj := ⟨(.type PySem.W.SL.s14018661285674007319x4), none, (.dict #[⟨(kh P s18), (.str s18 633), (.str s23 299)⟩, ⟨(kh P s20), (.str s20 637), (.int 166 636)⟩, ⟨(kh P s66), (.str s66 644), (.ref 382)⟩, ⟨(kh P s67), (.str s67 651), (.ref 389)⟩, ⟨(kh P s39), (.str s39 658), (.ref 396)⟩, ⟨(kh P s68), (.str s68 667), (.ref 403)⟩, ⟨(kh P s69), (.str s69 676), (.ref 410)⟩, ⟨(kh P s70), (.str s70 684), (.ref 417)⟩, ⟨(kh P s71), (.str s71 692), (.ref 424)⟩, ⟨(kh P s72), (.str s72 700), (.ref 431)⟩, ⟨(kh P s21), (.str s21 701), (.ref 432)⟩, ⟨(kh P s5), (.str s5 702), .none⟩] 2), #[]⟩
noncomputable def o434_5 (P : Params) : Obj := ⟨(.type PySem.W.SL.s17162191345867700912x4), none, (.cls ⟨s99, [(.ref 195)], [(.ref 434), (.ref 195), (.ref 127), (.type PySem.W.SL.s2742458400755230247x6)], 433, s99, true, [], [], false, none, false⟩), #[(some (.ref 369)), none, (some (.str s99 626)), (some (.str s99 634)), (some (.builtin PySem.W.SL.s11443829558043349243x14)), (some (.bool true))]⟩
noncomputable def o435_5 (P : Params) : Obj := ⟨(.type PySem.W.SL.s4290257624100764138x5), none, (.fields #[(.ref 434), (.ref 434), (.ref 434)]), #[]⟩
noncomputable def o436_5 (P : Params) : Obj := ⟨(.type PySem.W.SL.s11030030927630378310x26), none, (.fields #[(.builtin PySem.W.SL.s4860613602091757760x24), (.ref 434)]), #[]⟩
noncomputable def o3_6 (P : Params) : Obj := ⟨(.type PySem.W.SL.s14018661285674007319x4), none, (.dict #[⟨(kh P s3), (.str s3 165), (.str s108 784)⟩, ⟨(kh P s5), (.str s5 166), .none⟩, ⟨(kh P s6), (.str s6 167), .none⟩, ⟨(kh P s7), (.str s7 168), (.builtin PySem.W.SL.s7097527257260152453x26)⟩, ⟨(kh P s8), (.str s8 169), .none⟩, ⟨(kh P s9), (.str s9 170), (.ref 6)⟩, ⟨(kh P s10), (.str s10 171), (.ref 4)⟩, ⟨(kh P s11), (.str s11 173), (.str s1 172)⟩, ⟨(kh P s12), (.str s12 174), .none⟩, ⟨(kh P s13), (.str s13 193), (.ref 21)⟩, ⟨(kh P s14), (.str s14 213), (.ref 31)⟩, ⟨(kh P s15), (.str s15 229), (.ref 44)⟩, ⟨(kh P s16), (.str s16 245), (.ref 56)⟩, ⟨(kh P s24), (.str s24 261), (.ref 68)⟩, ⟨(kh P s25), (.str s25 270), (.ref 77)⟩, ⟨(kh P s26), (.str s26 281), (.ref 84)⟩, ⟨(kh P s27), (.str s27 290), (.ref 91)⟩, ⟨(kh P s28), (.str s28 298), (.ref 98)⟩, ⟨(kh P s29), (.str s29 302), (.str s30 301)⟩, ⟨(kh P s31), (.str s31 304), (.int 30 303)⟩, ⟨(kh P s32), (.str s32 306), (.int 1000000 305)⟩, ⟨(kh P s33), (.str s33 312), (.ref 103)⟩, ⟨(kh P s34), (.str s34 319), (.ref 110)⟩, ⟨(kh P s35), (.str s35 326), (.ref 117)⟩, ⟨(kh P s36), (.str s36 346), (.ref 127)⟩, ⟨(kh P s51), (.str s51 376), (.ref 155)⟩, ⟨(kh P s52), (.str s52 422), (.ref 195)⟩, ⟨(kh P s65), (.str s65 520), (.ref 277)⟩, ⟨(kh P s85), (.str s85 625), (.ref 366)⟩, ⟨(kh P s99), (.str s99 704), (.ref 434)⟩, ⟨(kh P s109), (.str s109 783), (.ref 502)⟩, ⟨(kh P s110), (.str s110 793), (.ref 511)⟩, ⟨(kh P s111), (.str s111 802), (.ref 518)⟩, ⟨(kh P s112), (.str s112 810), (.ref 525)⟩, ⟨(kh P s113), (.str s113 819), (.ref 532)⟩, ⟨(kh P s114), (.str s114 830), (.ref 539)⟩, ⟨(kh P s115), (.str s115 840), (.ref 546)⟩, ⟨(kh P s116), (.str s116 855), (.ref 553)⟩] 38), #[]⟩
noncomputable def o12_6 (P : Params) : Obj := ⟨.none, none, (.fields #[(.int 1 0), (.int 0 0), (.ref 20), (.int 5 0), (.int 0 0), (.ref 27), (.int 7 0), (.int 0 0), (.ref 40), (.int 9 0), (.int 0 0), (.ref 52), (.int 11 0), (.int 0 0), (.ref 64), (.int 14 0), (.int 0 0), (.ref 76), (.int 16 0), (.int 0 0), (.ref 83), (.int 24 0), (.int 0 0), (.ref 90), (.int 33 0), (.int 0 0), (.ref 97), (.int 46 0), (.int 0 0), (.ref 102), (.int 55 0), (.int 0 0), (.ref 109), (.int 59 0), (.int 0 0), (.ref 116), (.int 62 0), (.int 0 0), (.ref 123), (.int 64 0), (.int 0 0), (.ref 137), (.int 71 0), (.int 0 0), (.ref 163), (.int 84 0), (.int 0 0), (.ref 203), (.int 127 0), (.int 0 0), (.ref 285), (.int 166 0), (.int 0 0), (.ref 374), (.int 200 0), (.int 0 0), (.ref 442), (.int 231 0), (.int 0 0), (.ref 510), (.int 235 0), (.int 0 0), (.ref 517), (.int 238 0), (.int 0 0), (.ref 524), (.int 241 0), (.int 0 0), (.ref 531), (.int 253 0), (.int 0 0), (.ref 538), (.int 264 0), (.int 0 0), (.ref 545), (.int 270 0), (.int 0 0), (.ref 552)]), #[]⟩
noncomputable def o195_6 (P : Params) : Obj := ⟨(.type PySem.W.SL.s17162191345867700912x4), none, (.cls ⟨s52, [(.ref 127)], [(.ref 195), (.ref 127), (.type PySem.W.SL.s2742458400755230247x6)], 194, s52, true, [], [(.ref 434), (.ref 502)], false, none, false⟩), #[(some (.ref 158)), none, (some (.str s52 377)), (some (.str s52 385)), (some (.builtin PySem.W.SL.s11443829558043349243x14)), (some (.bool true))]⟩
noncomputable def o437_6 (P : Params) : Obj := ⟨(.type PySem.W.SL.s2766695959194262286x5), none, (.seq #[(.ref 195)] 0), #[]⟩
noncomputable def o438_6 (P : Params) : Obj := ⟨(.type PySem.W.SL.s11030030927630378310x26), none, (.fields #[(.builtin PySem.W.SL.s10062305145149207511x16), (.type PySem.W.SL.s17162191345867700912x4)]), #[]⟩
noncomputable def o439_6 (P : Params) : Obj := ⟨(.type PySem.W.SL.s14018661285674007319x4), none, (.dict #[⟨(kh P s18), (.str s18 712), (.str s23 299)⟩, ⟨(kh P s19), (.str s19 714), (.str s109 713)⟩, ⟨(kh P s20), (.str s20 716), (.int 200 715)⟩, ⟨(kh P s66), (.str s66 723), (.ref 450)⟩, ⟨(kh P s67), (.str s67 730), (.ref 457)⟩, ⟨(kh P s39), (.str s39 737), (.ref 464)⟩, ⟨(kh P s68), (.str s68 746), (.ref 471)⟩, ⟨(kh P s69), (.str s69 755), (.ref 478)⟩, ⟨(kh P s70), (.str s70 763), (.ref 485)⟩, ⟨(kh P s71), (.str s71 771), (.ref 492)⟩, ⟨(kh P s72), (.str s72 779), (.ref 499)⟩, ⟨(kh P s21), (.str s21 780), (.ref 500)⟩] 12), #[]⟩
noncomputable def o440_6 (P : Params) : Obj := ⟨(.type PySem.W.SL.s2766695959194262286x5), none, (.seq #[] 0), #[]⟩
noncomputable def o441_6 (P : Params) : Obj := ⟨.none, none, (.fields #[(.int 202 0), (.int 4 0), (.ref 449), (.int 205 0), (.int 4 0), (.ref 456), (.int 208 0), (.int 4 0), (.ref 463), (.int 211 0), (.int 4 0), (.ref 470), (.int 214 0), (.int 4 0), (.ref 477), (.int 217 0), (.int 4 0), (.ref 484), (.int 220 0), (.int 4 0), (.ref 491), (.int 223 0), (.int 4 0), (.ref 498)]), #[]⟩
noncomputable def o442_6 (P : Params) : Obj := ⟨(.type PySem.W.SL.s5856160107412720595x4), none, (.fields #[(.str s109 707), (.str s109 708), (.str s1 709), (.int 200 0), (.int 0 0), (.int 0 0), (.int 0 0), (.int 0 0), (.ref 440), (.bool false), (.int 181 0), (.ref 441), .none, .none, .none, .none, (.int 710 0), (.int 200 0), (.str s1 711)]), #[]⟩
noncomputable def o443_6 (P : Params) : Obj := ⟨(.type PySem.W.SL.s658472552662922059x5), none, .plain, #[(some (.ref 442)), (some (.ref 3)), (some (.ref 439)), none, (some (.str s23 299)), none, (some (.ref 0))]⟩
noncomputable def o444_6 (P : Params) : Obj := ⟨(.type PySem.W.SL.s2766695959194262286x5), none, (.seq #[] 0), #[]⟩
noncomputable def o445_6 (P : Params) : Obj := ⟨.none, none, (.fields #[]), #[]⟩
noncomputable def o446_6 (P : Params) : Obj := ⟨(.type PySem.W.SL.s2766695959194262286x5), none, (.seq #[(.str s55 720)] 0), #[]⟩
noncomputable def o447_6 (P : Params) : Obj := ⟨(.type PySem.W.SL.s2766695959194262286x5), none, (.seq #[] 0), #[]⟩
noncomputable def o448_6 (P : Params) : Obj := ⟨.none, none, (.func ⟨s66, s117, (L2.defArgs (L2.inClass (topT 24) 0)), (.stmts (L2.defBody (L2.inClass (topT 24) 0))), (L2.defScope (L2.inClass (topT 24) 0)), 0, [], .none, .none, .none, .none, none, .none, .none, 0⟩), #[]⟩
noncomputable def o449_6 (P : Params) : Obj := ⟨(.type PySem.W.SL.s5856160107412720595x4), none, (.fields #[(.str s66 717), (.str s117 718), (.str s1 719), (.int 202 0), (.int 1 0), (.int 0 0), (.int 0 0), (.int 3 0), (.ref 444), (.bool true), (.int 181 0), (.ref 445), .none, (.ref 446), (.ref 447), (.ref 448), (.int 721 0), (.int 202 0), (.str s1 722)]), #[]⟩
noncomputable def o450_6 (P : Params) : Obj := ⟨(.type PySem.W.SL.s7174869446012820540x8), none, (.func ⟨s66, s117, (L2.defArgs (L2.inClass (topT 24) 0)), (.stmts (L2.defBody (L2.inClass (topT 24) 0))), (L2.defScope (L2.inClass (topT 24) 0)), 3, [], .none, .none, .none, (.str s23 299), none, (.ref 449), .none, 0⟩), #[]⟩
noncomputable def o451_6 (P : Params) : Obj := ⟨(.type PySem.W.SL.s2766695959194262286x5), none, (.seq #[] 0), #[]⟩
noncomputable def o452_6 (P : Params) : Obj := ⟨.none, none, (.fields #[]), #[]⟩
noncomputable def o453_6 (P : Params) : Obj := ⟨(.type PySem.W.SL.s2766695959194262286x5), none, (.seq #[(.str s55 727)] 0), #[]⟩
noncomputable def o454_6 (P : Params) : Obj := ⟨(.type PySem.W.SL.s2766695959194262286x5), none, (.seq #[] 0), #[]⟩
noncomputable def o455_6 (P : Params) : Obj := ⟨.none, none, (.func ⟨s67, s118, (L2.defArgs (L2.inClass (topT 24) 1)), (.stmts (L2.defBody (L2.inClass (topT 24) 1))), (L2.defScope (L2.inClass (topT 24) 1)), 0, [], .none, .none, .none, .none, none, .none, .none, 0⟩), #[]⟩
noncomputable def o456_6 (P : Params) : Obj := ⟨(.type PySem.W.SL.s5856160107412720595x4), none, (.fields #[(.str s67 724), (.str s118 725), (.str s1 726), (.int 205 0), (.int 1 0), (.int 0 0), (.int 0 0), (.int 3 0), (.ref 451), (.bool true), (.int 181 0), (.ref 452), .none, (.ref 453), (.ref 454), (.ref 455), (.int 728 0), (.int 205 0), (.str s1 729)]), #[]⟩
noncomputable def o457_6 (P : Params) : Obj := ⟨(.type PySem.W.SL.s7174869446012820540x8), none, (.func ⟨s67, s118, (L2.defArgs (L2.inClass (topT 24) 1)), (.stmts (L2.defBody (L2.inClass (topT 24) 1))), (L2.defScope (L2.inClass (topT 24) 1)), 3, [], .none, .none, .none, (.str s23 299), none, (.ref 456), .none, 0⟩), #[]⟩
noncomputable def o458_6 (P : Params) : Obj := ⟨(.type PySem.W.SL.s2766695959194262286x5), none, (.seq #[] 0), #[]⟩
noncomputable def o459_6 (P : Params) : Obj := ⟨.none, none, (.fields #[]), #[]⟩
noncomputable def o460_6 (P : Params) : Obj := ⟨(.type PySem.W.SL.s2766695959194262286x5), none, (.seq #[(.str s55 734)] 0), #[]⟩
noncomputable def o461_6 (P : Params) : Obj := ⟨(.type PySem.W.SL.s2766695959194262286x5), none, (.seq #[] 0), #[]⟩
noncomputable def o462_6 (P : Params) : Obj := ⟨.none, none, (.func ⟨s39, s119, (L2.defArgs (L2.inClass (topT 24) 2)), (.stmts (L2.defBody (L2.inClass (topT 24) 2))), (L2.defScope (L2.inClass (topT 24) 2)), 0, [], .none, .none, .none, .none, none, .none, .none, 0⟩), #[]⟩
noncomputable def o463_6 (P : Params) : Obj := ⟨(.type PySem.W.SL.s5856160107412720595x4), none, (.fields #[(.str s39 731), (.str s119 732), (.str s1 733), (.int 208 0), (.int 1 0), (.int 0 0), (.int 0 0), (.int 3 0), (.ref 458), (.bool true), (.int 181 0), (.ref 459), .none, (.ref 460), (.ref 461), (.ref 462), (.int 735 0), (.int 208 0), (.str s1 736)]), #[]⟩
noncomputable def o464_6 (P : Params) : Obj := ⟨(.type PySem.W.SL.s7174869446012820540x8), none, (.func ⟨s39, s119, (L2.defArgs (L2.inClass (topT 24) 2)), (.stmts (L2.defBody (L2.inClass (topT 24) 2))), (L2.defScope (L2.inClass (topT 24) 2)), 3, [], .none, .none, .none, (.str s23 299), none, (.ref 463), .none, 0⟩), #[]⟩
noncomputable def o465_6 (P : Params) : Obj := ⟨(.type PySem.W.SL.s2766695959194262286x5), none, (.seq #[] 0), #[]⟩
noncomputable def o466_6 (P : Params) : Obj := ⟨.none, none, (.fields #[]), #[]⟩
noncomputable def o467_6 (P : Params) : Obj := ⟨(.type PySem.W.SL.s2766695959194262286x5), none, (.seq #[(.str s55 741), (.str s62 742), (.str s76 743)] 0), #[]⟩
noncomputable def o468_6 (P : Params) : Obj := ⟨(.type PySem.W.SL.s2766695959194262286x5), none, (.seq #[] 0), #[]⟩
noncomputable def o469_6 (P : Params) : Obj := ⟨.none, none, (.func ⟨s68, s120, (L2.defArgs (L2.inClass (topT 24) 3)), (.stmts (L2.defBody (L2.inClass (topT 24) 3))), (L2.defScope (L2.inClass (topT 24) 3)), 0, [], .none, .none, .none, .none, none, .none, .none, 0⟩), #[]⟩
noncomputable def o470_6 (P : Params) : Obj := ⟨(.type PySem.W.SL.s5856160107412720595x4), none, (.fields #[(.str s68 738), (.str s120 739), (.str s1 740), (.int 211 0), (.int 3 0), (.int 0 0), (.int 0 0), (.int 3 0), (.ref 465), (.bool true), (.int 181 0), (.ref 466), .none, (.ref 467), (.ref 468), (.ref 469), (.int 744 0), (.int 211 0), (.str s1 745)]), #[]⟩
noncomputable def o471_6 (P : Params) : Obj := ⟨(.type PySem.W.SL.s7174869446012820540x8), none, (.func ⟨s68, s120, (L2.defArgs (L2.inClass (topT 24) 3)), (.stmts (L2.defBody (L2.inClass (topT 24) 3))), (L2.defScope (L2.inClass (topT 24) 3)), 3, [], .none, .none, .none, (.str s23 299), none, (.ref 470), .none, 0⟩), #[]⟩
noncomputable def o472_6 (P : Params) : Obj := ⟨(.type PySem.W.SL.s2766695959194262286x5), none, (.seq #[] 0), #[]⟩
noncomputable def o473_6 (P : Params) : Obj := ⟨.none, none, (.fields #[]), #[]⟩
noncomputable def o474_6 (P : Params) : Obj := ⟨(.type PySem.W.SL.s2766695959194262286x5), none, (.seq #[(.str s55 750), (.str s62 751), (.str s76 752)] 0), #[]⟩
noncomputable def o475_6 (P : Params) : Obj := ⟨(.type PySem.W.SL.s2766695959194262286x5), none, (.seq #[] 0), #[]⟩
noncomputable def o476_6 (P : Params) : Obj := ⟨.none, none, (.func ⟨s69, s121, (L2.defArgs (L2.inClass (topT 24) 4)), (.stmts (L2.defBody (L2.inClass (topT 24) 4))), (L2.defScope (L2.inClass (topT 24) 4)), 0, [], .none, .none, .none, .none, none, .none, .none, 0⟩), #[]⟩
noncomputable def o477_6 (P : Params) : Obj := ⟨(.type PySem.W.SL.s5856160107412720595x4), none, (.fields #[(.str s69 747), (.str s121 748), (.str s1 749), (.int 214 0), (.int 3 0), (.int 0 0), (.int 0 0), (.int 3 0), (.ref 472), (.bool true), (.int 181 0), (.ref 473), .none, (.ref 474), (.ref 475), (.ref 476), (.int 753 0), (.int 214 0), (.str s1 754)]), #[]⟩
noncomputable def o478_6 (P : Params) : Obj := ⟨(.type PySem.W.SL.s7174869446012820540x8), none, (.func ⟨s69, s121, (L2.defArgs (L2.inClass (topT 24) 4)), (.stmts (L2.defBody (L2.inClass (topT 24) 4))), (L2.defScope (L2.inClass (topT 24) 4)), 3, [], .none, .none, .none, (.str s23 299), none, (.ref 477), .none, 0⟩), #[]⟩
noncomputable def o479_6 (P : Params) : Obj := ⟨(.type PySem.W.SL.s2766695959194262286x5), none, (.seq #[] 0), #[]⟩
noncomputable def o480_6 (P : Params) : Obj := ⟨.none, none, (.fields #[]), #[]⟩
noncomputable def o481_6 (P : Params) : Obj := ⟨(.type PySem.W.SL.s2766695959194262286x5), none, (.seq #[(.str s55 759), (.str s37 760)] 0), #[]⟩
noncomputable def o482_6 (P : Params) : Obj := ⟨(.type PySem.W.SL.s2766695959194262286x5), none, (.seq #[] 0), #[]⟩
noncomputable def o483_6 (P : Params) : Obj := ⟨.none, none, (.func ⟨s70, s122, (L2.defArgs (L2.inClass (topT 24) 5)), (.stmts (L2.defBody (L2.inClass (topT 24) 5))), (L2.defScope (L2.inClass (topT 24) 5)), 0, [], .none, .none, .none, .none, none, .none, .none, 0⟩), #[]⟩
noncomputable def o484_6 (P : Params) : Obj := ⟨(.type PySem.W.SL.s5856160107412720595x4), none, (.fields #[(.str s70 756), (.str s122 757), (.str s1 758), (.int 217 0), (.int 2 0), (.int 0 0), (.int 0 0), (.int 3 0), (.ref 479), (.bool true), (.int 181 0), (.ref 480), .none, (.ref 481), (.ref 482), (.ref 483), (.int 761 0), (.int 217 0), (.str s1 762)]), #[]⟩
noncomputable def o485_6 (P : Params) : Obj := ⟨(.type PySem.W.SL.s7174869446012820540x8), none, (.func ⟨s70, s122, (L2.defArgs (L2.inClass (topT 24) 5)), (.stmts (L2.defBody (L2.inClass (topT 24) 5))), (L2.defScope (L2.inClass (topT 24) 5)), 3, [], .none, .none, .none, (.str s23 299), none, (.ref 484), .none, 0⟩), #[]⟩
noncomputable def o486_6 (P : Params) : Obj := ⟨(.type PySem.W.SL.s2766695959194262286x5), none, (.seq #[] 0), #[]⟩
noncomputable def o487_6 (P : Params) : Obj := ⟨.none, none, (.fields #[]), #[]⟩
noncomputable def o488_6 (P : Params) : Obj := ⟨(.type PySem.W.SL.s2766695959194262286x5), none, (.seq #[(.str s55 767), (.str s62 768)] 0), #[]⟩
noncomputable def o489_6 (P : Params) : Obj := ⟨(.type PySem.W.SL.s2766695959194262286x5), none, (.seq #[] 0), #[]⟩
noncomputable def o490_6 (P : Params) : Obj := ⟨.none, none, (.func ⟨s71, s123, (L2.defArgs (L2.inClass (topT 24) 6)), (.stmts (L2.defBody (L2.inClass (topT 24) 6))), (L2.defScope (L2.inClass (topT 24) 6)), 0, [], .none, .none, .none, .none, none, .none, .none, 0⟩), #[]⟩
noncomputable def o491_6 (P : Params) : Obj := ⟨(.type PySem.W.SL.s5856160107412720595x4), none, (.fields #[(.str s71 764), (.str s123 765), (.str s1 766), (.int 220 0), (.int 2 0), (.int 0 0), (.int 0 0), (.int 3 0), (.ref 486), (.bool true), (.int 181 0), (.ref 487), .none, (.ref 488), (.ref 489), (.ref 490), (.int 769 0), (.int 220 0), (.str s1 770)]), #[]⟩
noncomputable def o492_6 (P : Params) : Obj := ⟨(.type PySem.W.SL.s7174869446012820540x8), none, (.func ⟨s71, s123, (L2.defArgs (L2.inClass (topT 24) 6)), (.stmts (L2.defBody (L2.inClass (topT 24) 6))), (L2.defScope (L2.inClass (topT 24) 6)), 3, [], .none, .none, .none, (.str s23 299), none, (.ref 491), .none, 0⟩), #[]⟩
noncomputable def o493_6 (P : Params) : Obj := ⟨(.type PySem.W.SL.s2766695959194262286x5), none, (.seq #[] 0), #[]⟩
noncomputable def o494_6 (P : Params) : Obj := ⟨.none, none, (.fields #[]), #[]⟩
noncomputable def o495_6 (P : Params) : Obj := ⟨(.type PySem.W.SL.s2766695959194262286x5), none, (.seq #[(.str s55 775), (.str s49 776)] 0), #[]⟩
noncomputable def o496_6 (P : Params) : Obj := ⟨(.type PySem.W.SL.s2766695959194262286x5), none, (.seq #[] 0), #[]⟩
noncomputable def o497_6 (P : Params) : Obj := ⟨.none, none, (.func ⟨s72, s124, (L2.defArgs (L2.inClass (topT 24) 7)), (.stmts (L2.defBody (L2.inClass (topT 24) 7))), (L2.defScope (L2.inClass (topT 24) 7)), 0, [], .none, .none, .none, .none, none, .none, .none, 0⟩), #[]⟩
noncomputable def o498_6 (P : Params) : Obj := ⟨(.type PySem.W.SL.s5856160107412720595x4), none, (.fields #[(.str s72 772), (.str s124 773), (.str s1 774), (.int 223 0), (.int 2 0), (.int 0 0), (.int 0 0), (.int 3 0), (.ref 493), (.bool true), (.int 181 0), (.ref 494), .none, (.ref 495), (.ref 496), (.ref 497), (.int 777 0), (.int 223 0), (.str s1 778)]), #[]⟩
noncomputable def o499_6 (P : Params) : Obj := ⟨(.type PySem.W.SL.s7174869446012820540x8), none, (.func ⟨s72, s124, (L2.defArgs (L2.inClass (topT 24) 7)), (.stmts (L2.defBody (L2.inClass (topT 24) 7))), (L2.defScope (L2.inClass (topT 24) 7)), 3, [], .none, .none, .none, (.str s23 299), none, (.ref 498), .none, 0⟩), #[]⟩
noncomputable def o500_6 (P : Params) : Obj := ⟨(.type PySem.W.SL.s2766695959194262286x5), none, (.seq #[] 0), #[]⟩
noncomputable def o501_6 (P : Params) : Obj := ⟨(.type PySem.W.SL.s14018661285674007319x4), none, (.dict #[⟨(kh P s18), (.str s18 712), (.str s23 299)⟩, ⟨(kh P s20), (.str s20 716), (.int 200 715)⟩, ⟨(kh P s66), (.str s66 723), (.ref 450)⟩, ⟨(kh P s67), (.str s67 730), (.ref 457)⟩, ⟨(kh P s39), (.str s39 737), (.ref 464)⟩, ⟨(kh P s68), (.str s68 746), (.ref 471)⟩, ⟨(kh P s69), (.str s69 755), (.ref 478)⟩, ⟨(kh P s70), (.str s70 763), (.ref 485)⟩, ⟨(kh P s71), (.str s71 771), (.ref 492)⟩, ⟨(kh P s72), (.str s72 779), (.ref 499)⟩, ⟨(kh P s21), (.str s21 780), (.ref 500)⟩, ⟨(kh P s5), (.str s5 781), .none⟩] 2), #[]⟩
noncomputable def o502_6 (P : Params) : Obj := ⟨(.type PySem.W.SL.s17162191345867700912x4), none, (.cls ⟨s109, [(.ref 195)], [(.ref 502), (.ref 195), (.ref 127), (.type PySem.W.SL.s2742458400755230247x6)], 501, s109, true, [], [], false, none, false⟩), #[(some (.ref 437)), none, (some (.str s109 705)), (some (.str s109 713)), (some (.builtin PySem.W.SL.s11443829558043349243x14)), (some (.bool true))]⟩
noncomputable def o503_6 (P : Params) : Obj := ⟨(.type PySem.W.SL.s4290257624100764138x5), none, (.fields #[(.ref 502), (.ref 502), (.ref 502)]), #[]⟩
noncomputable def o504_6 (P : Params) : Obj := ⟨(.type PySem.W.SL.s11030030927630378310x26), none, (.fields #[(.builtin PySem.W.SL.s4860613602091757760x24), (.ref 502)]), #[]⟩
noncomputable def o505_6 (P : Params) : Obj := ⟨(.type PySem.W.SL.s2766695959194262286x5), none, (.seq #[] 0), #[]⟩
noncomputable def o506_6 (P : Params) : Obj := ⟨.none, none, (.fields #[]), #[]⟩
noncomputable def o507_6 (P : Params) : Obj := ⟨(.type PySem.W.SL.s2766695959194262286x5), none, (.seq #[(.str s125 789), (.str s126 790)] 0), #[]⟩
noncomputable def o508_6 (P : Params) : Obj := ⟨(.type PySem.W.SL.s2766695959194262286x5), none, (.seq #[] 0), #[]⟩
noncomputable def o509_6 (P : Params) : Obj := ⟨.none, none, (.func ⟨s110, s110, (L2.defArgs (topT 26)), (.stmts (L2.defBody (topT 26))), (L2.defScope (topT 26)), 0, [], .none, .none, .none, .none, none, .none, .none, 0⟩), #[]⟩
noncomputable def o510_6 (P : Params) : Obj := ⟨(.type PySem.W.SL.s5856160107412720595x4), none, (.fields #[(.str s110 786), (.str s110 787), (.str s1 788), (.int 231 0), (.int 2 0), (.int 0 0), (.int 0 0), (.int 3 0), (.ref 505), (.bool true), (.int 181 0), (.ref 506), .none, (.ref 507), (.ref 508), (.ref 509), (.int 791 0), (.int 231 0), (.str s1 792)]), #[]⟩
noncomputable def o511_6 (P : Params) : Obj := ⟨(.type PySem.W.SL.s7174869446012820540x8), none, (.func ⟨s110, s110, (L2.defArgs (topT 26)), (.stmts (L2.defBody (topT 26))), (L2.defScope (topT 26)), 3, [], .none, .none, .none, (.str s108 784), none, (.ref 510), .none, 0⟩), #[]⟩
noncomputable def o512_6 (P : Params) : Obj := ⟨(.type PySem.W.SL.s2766695959194262286x5), none, (.seq #[] 0), #[]⟩
noncomputable def o513_6 (P : Params) : Obj := ⟨.none, none, (.fields #[]), #[]⟩
noncomputable def o514_6 (P : Params) : Obj := ⟨(.type PySem.W.SL.s2766695959194262286x5), none, (.seq #[(.str s127 797), (.str s128 798), (.str s129 799)] 0), #[]⟩
noncomputable def o515_6 (P : Params) : Obj := ⟨(.type PySem.W.SL.s2766695959194262286x5), none, (.seq #[] 0), #[]⟩
noncomputable def o516_6 (P : Params) : Obj := ⟨.none, none, (.func ⟨s111, s111, (L2.defArgs (topT 27)), (.stmts (L2.defBody (topT 27))), (L2.defScope (topT 27)), 0, [], .none, .none, .none, .none, none, .none, .none, 0⟩), #[]⟩
noncomputable def o517_6 (P : Params) : Obj := ⟨(.type PySem.W.SL.s5856160107412720595x4), none, (.fields #[(.str s111 794), (.str s111 795), (.str s1 796), (.int 235 0), (.int 2 0), (.int 0 0), (.int 0 0), (.int 3 0), (.ref 512), (.bool true), (.int 181 0), (.ref 513), .none, (.ref 514), (.ref 515), (.ref 516), (.int 800 0), (.int 235 0), (.str s1 801)]), #[]⟩
noncomputable def o518_6 (P : Params) : Obj := ⟨(.type PySem.W.SL.s7174869446012820540x8), none, (.func ⟨s111, s111, (L2.defArgs (topT 27)), (.stmts (L2.defBody (topT 27))), (L2.defScope (topT 27)), 3, [], .none, .none, .none, (.str s108 784), none, (.ref 517), .none, 0⟩), #[]⟩
noncomputable def o519_6 (P : Params) : Obj := ⟨(.type PySem.W.SL.s2766695959194262286x5), none, (.seq #[] 0), #[]⟩
noncomputable def o520_6 (P : Params) : Obj := ⟨.none, none, (.fields #[]), #[]⟩
noncomputable def o521_6 (P : Params) : Obj := ⟨(.type PySem.W.SL.s2766695959194262286x5), none, (.seq #[(.str s130 806), (.str s131 807)] 0), #[]⟩
noncomputable def o522_6 (P : Params) : Obj := ⟨(.type PySem.W.SL.s2766695959194262286x5), none, (.seq #[] 0), #[]⟩
noncomputable def o523_6 (P : Params) : Obj := ⟨.none, none, (.func ⟨s112, s112, (L2.defArgs (topT 28)), (.stmts (L2.defBody (topT 28))), (L2.defScope (topT 28)), 0, [], .none, .none, .none, .none, none, .none, .none, 0⟩), #[]⟩
noncomputable def o524_6 (P : Params) : Obj := ⟨(.type PySem.W.SL.s5856160107412720595x4), none, (.fields #[(.str s112 803), (.str s112 804), (.str s1 805), (.int 238 0), (.int 1 0), (.int 0 0), (.int 0 0), (.int 3 0), (.ref 519), (.bool true), (.int 181 0), (.ref 520), .none, (.ref 521), (.ref 522), (.ref 523), (.int 808 0), (.int 238 0), (.str s1 809)]), #[]⟩
noncomputable def o525_6 (P : Params) : Obj := ⟨(.type PySem.W.SL.s7174869446012820540x8), none, (.func ⟨s112, s112, (L2.defArgs (topT 28)), (.stmts (L2.defBody (topT 28))), (L2.defScope (topT 28)), 3, [], .none, .none, .none, (.str s108 784), none, (.ref 524), .none, 0⟩), #[]⟩
noncomputable def o526_6 (P : Params) : Obj := ⟨(.type PySem.W.SL.s2766695959194262286x5), none, (.seq #[] 0), #[]⟩
noncomputable def o527_6 (P : Params) : Obj := ⟨.none, none, (.fields #[]), #[]⟩
noncomputable def o528_6 (P : Params) : Obj := ⟨(.type PySem.W.SL.s2766695959194262286x5), none, (.seq #[(.str s132 814), (.str s131 815), (.str s130 816)] 0), #[]⟩
noncomputable def o529_6 (P : Params) : Obj := ⟨(.type PySem.W.SL.s2766695959194262286x5), none, (.seq #[] 0), #[]⟩
noncomputable def o530_6 (P : Params) : Obj := ⟨.none, none, (.func ⟨s113, s113, (L2.defArgs (topT 29)), (.stmts (L2.defBody (topT 29))), (L2.defScope (topT 29)), 0, [], .none, .none, .none, .none, none, .none, .none, 0⟩), #[]⟩
noncomputable def o531_6 (P : Params) : Obj := ⟨(.type PySem.W.SL.s5856160107412720595x4), none, (.fields #[(.str s113 811), (.str s113 812), (.str s1 813), (.int 241 0), (.int 3 0), (.int 0 0), (.int 0 0), (.int 3 0), (.ref 526), (.bool true), (.int 181 0), (.ref 527), .none, (.ref 528), (.ref 529), (.ref 530), (.int 817 0), (.int 241 0), (.str s1 818)]), #[]⟩
noncomputable def o532_6 (P : Params) : Obj := ⟨(.type PySem.W.SL.s7174869446012820540x8), none, (.func ⟨s113, s113, (L2.defArgs (topT 29)), (.stmts (L2.defBody (topT 29))), (L2.defScope (topT 29)), 3, [], .none, .none, .none, (.str s108 784), none, (.ref 531), .none, 0⟩), #[]⟩
noncomputable def o533_6 (P : Params) : Obj := ⟨(.type PySem.W.SL.s2766695959194262286x5), none, (.seq #[] 0), #[]⟩
noncomputable def o534_6 (P : Params) : Obj := ⟨.none, none, (.fields #[]), #[]⟩
noncomputable def o535_6 (P : Params) : Obj := ⟨(.type PySem.W.SL.s2766695959194262286x5), none, (.seq #[(.str s133 823), (.str s134 824), (.str s135 825), (.str s136 826), (.str s125 827)] 0), #[]⟩
noncomputable def o536_6 (P : Params) : Obj := ⟨(.type PySem.W.SL.s2766695959194262286x5), none, (.seq #[] 0), #[]⟩
noncomputable def o537_6 (P : Params) : Obj := ⟨.none, none, (.func ⟨s114, s114, (L2.defArgs (topT 30)), (.stmts (L2.defBody (topT 30))), (L2.defScope (topT 30)), 0, [], .none, .none, .none, .none, none, .none, .none, 0⟩), #[]⟩
noncomputable def o538_6 (P : Params) : Obj := ⟨(.type PySem.W.SL.s5856160107412720595x4), none, (.fields #[(.str s114 820), (.str s114 821), (.str s1 822), (.int 253 0), (.int 4 0), (.int 0 0), (.int 0 0), (.int 3 0), (.ref 533), (.bool true), (.int 181 0), (.ref 534), .none, (.ref 535), (.ref 536), (.ref 537), (.int 828 0), (.int 253 0), (.str s1 829)]), #[]⟩
noncomputable def o539_6 (P : Params) : Obj := ⟨(.type PySem.W.SL.s7174869446012820540x8), none, (.func ⟨s114, s114, (L2.defArgs (topT 30)), (.stmts (L2.defBody (topT 30))), (L2.defScope (topT 30)), 3, [], .none, .none, .none, (.str s108 784), none, (.ref 538), .none, 0⟩), #[]⟩
noncomputable def o540_6 (P : Params) : Obj := ⟨(.type PySem.W.SL.s2766695959194262286x5), none, (.seq #[] 0), #[]⟩
noncomputable def o541_6 (P : Params) : Obj := ⟨.none, none, (.fields #[]), #[]⟩
noncomputable def o542_6 (P : Params) : Obj := ⟨(.type PySem.W.SL.s2766695959194262286x5), none, (.seq #[(.str s133 834), (.str s134 835), (.str s137 836), (.str s125 837)] 0), #[]⟩
noncomputable def o543_6 (P : Params) : Obj := ⟨(.type PySem.W.SL.s2766695959194262286x5), none, (.seq #[] 0), #[]⟩
noncomputable def o544_6 (P : Params) : Obj := ⟨.none, none, (.func ⟨s115, s115, (L2.defArgs (topT 31)), (.stmts (L2.defBody (topT 31))), (L2.defScope (topT 31)), 0, [], .none, .none, .none, .none, none, .none, .none, 0⟩), #[]⟩
noncomputable def o545_6 (P : Params) : Obj := ⟨(.type PySem.W.SL.s5856160107412720595x4), none, (.fields #[(.str s115 831), (.str s115 832), (.str s1 833), (.int 264 0), (.int 2 0), (.int 0 0), (.int 0 0), (.int 3 0), (.ref 540), (.bool true), (.int 181 0), (.ref 541), .none, (.ref 542), (.ref 543), (.ref 544), (.int 838 0), (.int 264 0), (.str s1 839)]), #[]⟩
noncomputable def o546_6 (P : Params) : Obj := ⟨(.type PySem.W.SL.s7174869446012820540x8), none, (.func ⟨s115, s115, (L2.defArgs (topT 31)), (.stmts (L2.defBody (topT 31))), (L2.defScope (topT 31)), 3, [], .none, .none, .none, (.str s108 784), none, (.ref 545), .none, 0⟩), #[]⟩
noncomputable def o547_6 (P : Params) : Obj := ⟨(.type PySem.W.SL.s2766695959194262286x5), none, (.seq #[] 0), #[]⟩
noncomputable def o548_6 (P : Params) : Obj := ⟨.none, none, (.fields #[]), #[]⟩
noncomputable def o549_6 (P : Params) : Obj := ⟨(.type PySem.W.SL.s2766695959194262286x5), none, (.seq #[(.str s138 844), (.str s139 845), (.str s140 846), (.str s131 847), (.str s141 848), (.str s132 849), (.str s134 850), (.str s135 851), (.str s136 852)] 0), #[]⟩
noncomputable def o550_6 (P : Params) : Obj := ⟨(.type PySem.W.SL.s2766695959194262286x5), none, (.seq #[] 0), #[]⟩
noncomputable def o551_6 (P : Params) : Obj := ⟨.none, none, (.func ⟨s116, s116, (L2.defArgs (topT 32)), (.stmts (L2.defBody (topT 32))), (L2.defScope (topT 32)), 0, [], .none, .none, .none, .none, none, .none, .none, 0⟩), #[]⟩
noncomputable def o552_6 (P : Params) : Obj := ⟨(.type PySem.W.SL.s5856160107412720595x4), none, (.fields #[(.str s116 841), (.str s116 842), (.str s1 843), (.int 270 0), (.int 1 0), (.int 0 0), (.int 0 0), (.int 3 0), (.ref 547), (.bool true), (.int 181 0), (.ref 548), .none, (.ref 549), (.ref 550), (.ref 551), (.int 853 0), (.int 270 0), (.str s1 854)]), #[]⟩
noncomputable def o553_6 (P : Params) : Obj := ⟨(.type PySem.W.SL.s7174869446012820540x8), none, (.func ⟨s116, s116, (L2.defArgs (topT 32)), (.stmts (L2.defBody (topT 32))), (L2.defScope (topT 32)), 3, [], .none, .none, .none, (.str s108 784), none, (.ref 552), .none, 0⟩), #[]⟩
noncomputable def envT : Env := { scope := PySem.W.Fast.tw12559301932579607790.main.scope, locals := mainNs, globals := mainNs, cells := [], code := (.ref 13), frame := some 14 }
noncomputable def cT : Code := .body (behindTheImports PySem.W.Fast.tw12559301932579607790) envT
noncomputable def qP : Pos := ⟨0, 0, 0, 0⟩
noncomputable def Ha (P : Params) : Heap := ⟨⟨[boot_o_0 P, boot_o_1 P, boot_o_2 P, boot_o_3 P, boot_o_4 P, boot_o_5 P, boot_o_6 P, boot_o_7 P, boot_o_8 P, boot_o_9 P, boot_o_10 P, o11a P, o12a P, o13a P, o14a P]⟩, (PySem.Life.mk [] [] [] 0 [] [] false #[] [] 0 false false false 0 [2000, 10, 10] false 0 true [] [] 0 false)⟩
noncomputable def Sa (w : World) (os : OsState) : Shared := ⟨Ha w.params, ⟨[]⟩, (PySem.Drawn.mk 0 0 0 0), 187, os⟩
noncomputable def Tb (P : Params) : BT := (.node (boot_o_0 P) (.node (boot_o_1 P) (.node (boot_o_3 P) (.node (boot_o_7 P) .nil .nil) (.node (o11a P) .nil .nil)) (.node (boot_o_5 P) (.node (boot_o_9 P) .nil .nil) (.node (o13a P) .nil .nil))) (.node (boot_o_2 P) (.node (boot_o_4 P) (.node (boot_o_8 P) .nil .nil) (.node (o12a P) .nil .nil)) (.node (boot_o_6 P) (.node (boot_o_10 P) .nil .nil) (.node (o14a P) .nil .nil))))
noncomputable def Sb (w : World) (os : OsState) : SharedT := ⟨Tb w.params, 15, (PySem.Life.mk [] [] [] 0 [] [] false #[] [] 0 false false false 0 [2000, 10, 10] false 0 true [] [] 0 false), ⟨[]⟩, (PySem.Drawn.mk 0 0 0 0), 187, os⟩
noncomputable def T0 (P : Params) : BT := (.node (boot_o_0 P) (.node (boot_o_1 P) (.node (o3_0 P) (.node (boot_o_7 P) (.node (o15_0 P) (.node (o31_0 P) .nil .nil) (.node (o47_0 P) .nil .nil)) (.node (o23_0 P) (.node (o39_0 P) .nil .nil) (.node (o55_0 P) .nil .nil))) (.node (o11a P) (.node (o19_0 P) (.node (o35_0 P) .nil .nil) (.node (o51_0 P) .nil .nil)) (.node (o27_0 P) (.node (o43_0 P) .nil .nil) .nil))) (.node (boot_o_5 P) (.node (boot_o_9 P) (.node (o17_0 P) (.node (o33_0 P) .nil .nil) (.node (o49_0 P) .nil .nil)) (.node (o25_0 P) (.node (o41_0 P) .nil .nil) (.node (o57_0 P) .nil .nil))) (.node (o13a P) (.node (o21_0 P) (.node (o37_0 P) .nil .nil) (.node (o53_0 P) .nil .nil)) (.node (o29_0 P) (.node (o45_0 P) .nil .nil) .nil)))) (.node (boot_o_2 P) (.node (boot_o_4 P) (.node (boot_o_8 P) (.node (o16_0 P) (.node (o32_0 P) .nil .nil) (.node (o48_0 P) .nil .nil)) (.node (o24_0 P) (.node (o40_0 P) .nil .nil) (.node (o56_0 P) .nil .nil))) (.node (o12_0 P) (.node (o20_0 P) (.node (o36_0 P) .nil .nil) (.node (o52_0 P) .nil .nil)) (.node (o28_0 P) (.node (o44_0 P) .nil .nil) .nil))) (.node (boot_o_6 P) (.node (boot_o_10 P) (.node (o18_0 P) (.node (o34_0 P) .nil .nil) (.node (o50_0 P) .nil .nil)) (.node (o26_0 P) (.node (o42_0 P) .nil .nil) (.node (o58_0 P) .nil .nil))) (.node (o14a P) (.node (o22_0 P) (.node (o38_0 P) .nil .nil) (.node (o54_0 P) .nil .nil)) (.node (o30_0 P) (.node (o46_0 P) .nil .nil) .nil)))))
noncomputable def S0 (w : World) (os : OsState) : SharedT := ⟨T0 w.params, 59, (PySem.Life.mk [] [] [] 0 [] [] false #[] [] 0 false false false 0 [2000, 10, 10] false 0 true [] [] 0 false), ⟨[]⟩, (PySem.Drawn.mk 0 0 0 0), 246, os⟩
noncomputable def T1 (P : Params) : BT := (.node (boot_o_0 P) (.node (boot_o_1 P) (.node (o3_1 P) (.node (boot_o_7 P) (.node (o15_0 P) (.node (o31_1 P) (.node (o63_1 P) (.node (o127_1 P) .nil .nil) .nil) (.node (o95_1 P) .nil .nil)) (.node (o47_0 P) (.node (o79_1 P) .nil .nil) (.node (o111_1 P) .nil .nil))) (.node (o23_0 P) (.node (o39_0 P) (.node (o71_1 P) .nil .nil) (.node (o103_1 P) .nil .nil)) (.node (o55_0 P) (.node (o87_1 P) .nil .nil) (.node (o119_1 P) .nil .nil)))) (.node (o11a P) (.node (o19_0 P) (.node (o35_0 P) (.node (o67_1 P) (.node (o131_1 P) .nil .nil) .nil) (.node (o99_1 P) .nil .nil)) (.node (o51_0 P) (.node (o83_1 P) .nil .nil) (.node (o115_1 P) .nil .nil))) (.node (o27_0 P) (.node (o43_0 P) (.node (o75_1 P) .nil .nil) (.node (o107_1 P) .nil .nil)) (.node (o59_1 P) (.node (o91_1 P) .nil .nil) (.node (o123_1 P) .nil .nil))))) (.node (boot_o_5 P) (.node (boot_o_9 P) (.node (o17_0 P) (.node (o33_0 P) (.node (o65_1 P) (.node (o129_1 P) .nil .nil) .nil) (.node (o97_1 P) .nil .nil)) (.node (o49_0 P) (.node (o81_1 P) .nil .nil) (.node (o113_1 P) .nil .nil))) (.node (o25_0 P) (.node (o41_0 P) (.node (o73_1 P) .nil .nil) (.node (o105_1 P) .nil .nil)) (.node (o57_0 P) (.node (o89_1 P) .nil .nil) (.node (o121_1 P) .nil .nil)))) (.node (o13a P) (.node (o21_0 P) (.node (o37_0 P) (.node (o69_1 P) .nil .nil) (.node (o101_1 P) .nil .nil)) (.node (o53_0 P) (.node (o85_1 P) .nil .nil) (.node (o117_1 P) .nil .nil))) (.node (o29_0 P) (.node (o45_0 P) (.node (o77_1 P) .nil .nil) (.node (o109_1 P) .nil .nil)) (.node (o61_1 P) (.node (o93_1 P) .nil .nil) (.node (o125_1 P) .nil .nil)))))) (.node (boot_o_2 P) (.node (boot_o_4 P) (.node (boot_o_8 P) (.node (o16_0 P) (.node (o32_0 P) (.node (o64_1 P) (.node (o128_1 P) .nil .nil) .nil) (.node (o96_1 P) .nil .nil)) (.node (o48_0 P) (.node (o80_1 P) .nil .nil) (.node (o112_1 P) .nil .nil))) (.node (o24_0 P) (.node (o40_0 P) (.node (o72_1 P) .nil .nil) (.node (o104_1 P) .nil .nil)) (.node (o56_0 P) (.node (o88_1 P) .nil .nil) (.node (o120_1 P) .nil .nil)))) (.node (o12_1 P) (.node (o20_0 P) (.node (o36_0 P) (.node (o68_1 P) .nil .nil) (.node (o100_1 P) .nil .nil)) (.node (o52_0 P) (.node (o84_1 P) .nil .nil) (.node (o116_1 P) .nil .nil))) (.node (o28_0 P) (.node (o44_0 P) (.node (o76_1 P) .nil .nil) (.node (o108_1 P) .nil .nil)) (.node (o60_1 P) (.node (o92_1 P) .nil .nil) (.node (o124_1 P) .nil .nil))))) (.node (boot_o_6 P) (.node (boot_o_10 P) (.node (o18_0 P) (.node (o34_0 P) (.node (o66_1 P) (.node (o130_1 P) .nil .nil) .nil) (.node (o98_1 P) .nil .nil)) (.node (o50_0 P) (.node (o82_1 P) .nil .nil) (.node (o114_1 P) .nil .nil))) (.node (o26_0 P) (.node (o42_0 P) (.node (o74_1 P) .nil .nil) (.node (o106_1 P) .nil .nil)) (.node (o58_0 P) (.node (o90_1 P) .nil .nil) (.node (o122_1 P) .nil .nil)))) (.node (o14a P) (.node (o22_0 P) (.node (o38_0 P) (.node (o70_1 P) .nil .nil) (.node (o102_1 P) .nil .nil)) (.node (o54_0 P) (.node (o86_1 P) .nil .nil) (.node (o118_1 P) .nil .nil))) (.node (o30_0 P) (.node (o46_0 P) (.node (o78_1 P) .nil .nil) (.node (o110_1 P) .nil .nil)) (.node (o62_1 P) (.node (o94_1 P) .nil .nil) (.node (o126_1 P) .nil .nil)))))))
noncomputable def S1 (w : World) (os : OsState) : SharedT := ⟨T1 w.params, 132, (PySem.Life.mk [] [] [] 0 [] [] false #[] [] 0 false false false 0 [2000, 10, 10] false 0 true [] [] 0 false), ⟨[]⟩, (PySem.Drawn.mk 0 0 0 0), 347, os⟩
noncomputable def T2 (P : Params) : BT := (.node (boot_o_0 P) (.node (boot_o_1 P) (.node (o3_2 P) (.node (boot_o_7 P) (.node (o15_0 P) (.node (o31_1 P) (.node (o63_1 P) (.node (o127_2 P) .nil .nil) (.node (o191_2 P) .nil .nil)) (.node (o95_1 P) (.node (o159_2 P) .nil .nil) .nil)) (.node (o47_0 P) (.node (o79_1 P) (.node (o143_2 P) .nil .nil) .nil) (.node (o111_1 P) (.node (o175_2 P) .nil .nil) .nil))) (.node (o23_0 P) (.node (o39_0 P) (.node (o71_1 P) (.node (o135_2 P) .nil .nil) .nil) (.node (o103_1 P) (.node (o167_2 P) .nil .nil) .nil)) (.node (o55_0 P) (.node (o87_1 P) (.node (o151_2 P) .nil .nil) .nil) (.node (o119_1 P) (.node (o183_2 P) .nil .nil) .nil)))) (.node (o11a P) (.node (o19_0 P) (.node (o35_0 P) (.node (o67_1 P) (.node (o131_1 P) .nil .nil) (.node (o195_2 P) .nil .nil)) (.node (o99_1 P) (.node (o163_2 P) .nil .nil) .nil)) (.node (o51_0 P) (.node (o83_1 P) (.node (o147_2 P) .nil .nil) .nil) (.node (o115_1 P) (.node (o179_2 P) .nil .nil) .nil))) (.node (o27_0 P) (.node (o43_0 P) (.node (o75_1 P) (.node (o139_2 P) .nil .nil) .nil) (.node (o107_1 P) (.node (o171_2 P) .nil .nil) .nil)) (.node (o59_1 P) (.node (o91_1 P) (.node (o155_2 P) .nil .nil) .nil) (.node (o123_1 P) (.node (o187_2 P) .nil .nil) .nil))))) (.node (boot_o_5 P) (.node (boot_o_9 P) (.node (o17_0 P) (.node (o33_0 P) (.node (o65_1 P) (.node (o129_1 P) .nil .nil) (.node (o193_2 P) .nil .nil)) (.node (o97_1 P) (.node (o161_2 P) .nil .nil) .nil)) (.node (o49_0 P) (.node (o81_1 P) (.node (o145_2 P) .nil .nil) .nil) (.node (o113_1 P) (.node (o177_2 P) .nil .nil) .nil))) (.node (o25_0 P) (.node (o41_0 P) (.node (o73_1 P) (.node (o137_2 P) .nil .nil) .nil) (.node (o105_1 P) (.node (o169_2 P) .nil .nil) .nil)) (.node (o57_0 P) (.node (o89_1 P) (.node (o153_2 P) .nil .nil) .nil) (.node (o121_1 P) (.node (o185_2 P) .nil .nil) .nil)))) (.node (o13a P) (.node (o21_0 P) (.node (o37_0 P) (.node (o69_1 P) (.node (o133_2 P) .nil .nil) (.node (o197_2 P) .nil .nil)) (.node (o101_1 P) (.node (o165_2 P) .nil .nil) .nil)) (.node (o53_0 P) (.node (o85_1 P) (.node (o149_2 P) .nil .nil) .nil) (.node (o117_1 P) (.node (o181_2 P) .nil .nil) .nil))) (.node (o29_0 P) (.node (o45_0 P) (.node (o77_1 P) (.node (o141_2 P) .nil .nil) .nil) (.node (o109_1 P) (.node (o173_2 P) .nil .nil) .nil)) (.node (o61_1 P) (.node (o93_1 P) (.node (o157_2 P) .nil .nil) .nil) (.node (o125_1 P) (.node (o189_2 P) .nil .nil) .nil)))))) (.node (boot_o_2 P) (.node (boot_o_4 P) (.node (boot_o_8 P) (.node (o16_0 P) (.node (o32_0 P) (.node (o64_1 P) (.node (o128_1 P) .nil .nil) (.node (o192_2 P) .nil .nil)) (.node (o96_1 P) (.node (o160_2 P) .nil .nil) .nil)) (.node (o48_0 P) (.node (o80_1 P) (.node (o144_2 P) .nil .nil) .nil) (.node (o112_1 P) (.node (o176_2 P) .nil .nil) .nil))) (.node (o24_0 P) (.node (o40_0 P) (.node (o72_1 P) (.node (o136_2 P) .nil .nil) .nil) (.node (o104_1 P) (.node (o168_2 P) .nil .nil) .nil)) (.node (o56_0 P) (.node (o88_1 P) (.node (o152_2 P) .nil .nil) .nil) (.node (o120_1 P) (.node (o184_2 P) .nil .nil) .nil)))) (.node (o12_2 P) (.node (o20_0 P) (.node (o36_0 P) (.node (o68_1 P) (.node (o132_2 P) .nil .nil) (.node (o196_2 P) .nil .nil)) (.node (o100_1 P) (.node (o164_2 P) .nil .nil) .nil)) (.node (o52_0 P) (.node (o84_1 P) (.node (o148_2 P) .nil .nil) .nil) (.node (o116_1 P) (.node (o180_2 P) .nil .nil) .nil))) (.node (o28_0 P) (.node (o44_0 P) (.node (o76_1 P) (.node (o140_2 P) .nil .nil) .nil) (.node (o108_1 P) (.node (o172_2 P) .nil .nil) .nil)) (.node (o60_1 P) (.node (o92_1 P) (.node (o156_2 P) .nil .nil) .nil) (.node (o124_1 P) (.node (o188_2 P) .nil .nil) .nil))))) (.node (boot_o_6 P) (.node (boot_o_10 P) (.node (o18_0 P) (.node (o34_0 P) (.node (o66_1 P) (.node (o130_1 P) .nil .nil) (.node (o194_2 P) .nil .nil)) (.node (o98_1 P) (.node (o162_2 P) .nil .nil) .nil)) (.node (o50_0 P) (.node (o82_1 P) (.node (o146_2 P) .nil .nil) .nil) (.node (o114_1 P) (.node (o178_2 P) .nil .nil) .nil))) (.node (o26_0 P) (.node (o42_0 P) (.node (o74_1 P) (.node (o138_2 P) .nil .nil) .nil) (.node (o106_1 P) (.node (o170_2 P) .nil .nil) .nil)) (.node (o58_0 P) (.node (o90_1 P) (.node (o154_2 P) .nil .nil) .nil) (.node (o122_1 P) (.node (o186_2 P) .nil .nil) .nil)))) (.node (o14a P) (.node (o22_0 P) (.node (o38_0 P) (.node (o70_1 P) (.node (o134_2 P) .nil .nil) .nil) (.node (o102_1 P) (.node (o166_2 P) .nil .nil) .nil)) (.node (o54_0 P) (.node (o86_1 P) (.node (o150_2 P) .nil .nil) .nil) (.node (o118_1 P) (.node (o182_2 P) .nil .nil) .nil))) (.node (o30_0 P) (.node (o46_0 P) (.node (o78_1 P) (.node (o142_2 P) .nil .nil) .nil) (.node (o110_1 P) (.node (o174_2 P) .nil .nil) .nil)) (.node (o62_1 P) (.node (o94_1 P) (.node (o158_2 P) .nil .nil) .nil) (.node (o126_1 P) (.node (o190_2 P) .nil .nil) .nil)))))))
noncomputable def S2 (w : World) (os : OsState) : SharedT := ⟨T2 w.params, 198, (PySem.Life.mk [] [] [] 0 [] [] false #[] [] 0 false false false 0 [2000, 10, 10] false 0 true [] [] 0 false), ⟨[]⟩, (PySem.Drawn.mk 0 0 0 0), 423, os⟩
noncomputable def T3 (P : Params) : BT := (.node (boot_o_0 P) (.node (boot_o_1 P) (.node (o3_3 P) (.node (boot_o_7 P) (.node (o15_0 P) (.node (o31_1 P) (.node (o63_1 P) (.node (o127_2 P) (.node (o255_3 P) .nil .nil) .nil) (.node (o191_2 P) .nil .nil)) (.node (o95_1 P) (.node (o159_2 P) .nil .nil) (.node (o223_3 P) .nil .nil))) (.node (o47_0 P) (.node (o79_1 P) (.node (o143_2 P) (.node (o271_3 P) .nil .nil) .nil) (.node (o207_3 P) .nil .nil)) (.node (o111_1 P) (.node (o175_2 P) .nil .nil) (.node (o239_3 P) .nil .nil)))) (.node (o23_0 P) (.node (o39_0 P) (.node (o71_1 P) (.node (o135_2 P) (.node (o263_3 P) .nil .nil) .nil) (.node (o199_3 P) .nil .nil)) (.node (o103_1 P) (.node (o167_2 P) .nil .nil) (.node (o231_3 P) .nil .nil))) (.node (o55_0 P) (.node (o87_1 P) (.node (o151_2 P) (.node (o279_3 P) .nil .nil) .nil) (.node (o215_3 P) .nil .nil)) (.node (o119_1 P) (.node (o183_2 P) .nil .nil) (.node (o247_3 P) .nil .nil))))) (.node (o11a P) (.node (o19_0 P) (.node (o35_0 P) (.node (o67_1 P) (.node (o131_1 P) (.node (o259_3 P) .nil .nil) .nil) (.node (o195_2 P) .nil .nil)) (.node (o99_1 P) (.node (o163_2 P) .nil .nil) (.node (o227_3 P) .nil .nil))) (.node (o51_0 P) (.node (o83_1 P) (.node (o147_2 P) (.node (o275_3 P) .nil .nil) .nil) (.node (o211_3 P) .nil .nil)) (.node (o115_1 P) (.node (o179_2 P) .nil .nil) (.node (o243_3 P) .nil .nil)))) (.node (o27_0 P) (.node (o43_0 P) (.node (o75_1 P) (.node (o139_2 P) (.node (o267_3 P) .nil .nil) .nil) (.node (o203_3 P) .nil .nil)) (.node (o107_1 P) (.node (o171_2 P) .nil .nil) (.node (o235_3 P) .nil .nil))) (.node (o59_1 P) (.node (o91_1 P) (.node (o155_3 P) .nil .nil) (.node (o219_3 P) .nil .nil)) (.node (o123_1 P) (.node (o187_2 P) .nil .nil) (.node (o251_3 P) .nil .nil)))))) (.node (boot_o_5 P) (.node (boot_o_9 P) (.node (o17_0 P) (.node (o33_0 P) (.node (o65_1 P) (.node (o129_1 P) (.node (o257_3 P) .nil .nil) .nil) (.node (o193_2 P) .nil .nil)) (.node (o97_1 P) (.node (o161_2 P) .nil .nil) (.node (o225_3 P) .nil .nil))) (.node (o49_0 P) (.node (o81_1 P) (.node (o145_2 P) (.node (o273_3 P) .nil .nil) .nil) (.node (o209_3 P) .nil .nil)) (.node (o113_1 P) (.node (o177_2 P) .nil .nil) (.node (o241_3 P) .nil .nil)))) (.node (o25_0 P) (.node (o41_0 P) (.node (o73_1 P) (.node (o137_2 P) (.node (o265_3 P) .nil .nil) .nil) (.node (o201_3 P) .nil .nil)) (.node (o105_1 P) (.node (o169_2 P) .nil .nil) (.node (o233_3 P) .nil .nil))) (.node (o57_0 P) (.node (o89_1 P) (.node (o153_2 P) .nil .nil) (.node (o217_3 P) .nil .nil)) (.node (o121_1 P) (.node (o185_2 P) .nil .nil) (.node (o249_3 P) .nil .nil))))) (.node (o13a P) (.node (o21_0 P) (.node (o37_0 P) (.node (o69_1 P) (.node (o133_2 P) (.node (o261_3 P) .nil .nil) .nil) (.node (o197_2 P) .nil .nil)) (.node (o101_1 P) (.node (o165_2 P) .nil .nil) (.node (o229_3 P) .nil .nil))) (.node (o53_0 P) (.node (o85_1 P) (.node (o149_2 P) (.node (o277_3 P) .nil .nil) .nil) (.node (o213_3 P) .nil .nil)) (.node (o117_1 P) (.node (o181_2 P) .nil .nil) (.node (o245_3 P) .nil .nil)))) (.node (o29_0 P) (.node (o45_0 P) (.node (o77_1 P) (.node (o141_2 P) (.node (o269_3 P) .nil .nil) .nil) (.node (o205_3 P) .nil .nil)) (.node (o109_1 P) (.node (o173_2 P) .nil .nil) (.node (o237_3 P) .nil .nil))) (.node (o61_1 P) (.node (o93_1 P) (.node (o157_2 P) .nil .nil) (.node (o221_3 P) .nil .nil)) (.node (o125_1 P) (.node (o189_2 P) .nil .nil) (.node (o253_3 P) .nil .nil))))))) (.node (boot_o_2 P) (.node (boot_o_4 P) (.node (boot_o_8 P) (.node (o16_0 P) (.node (o32_0 P) (.node (o64_1 P) (.node (o128_1 P) (.node (o256_3 P) .nil .nil) .nil) (.node (o192_2 P) .nil .nil)) (.node (o96_1 P) (.node (o160_2 P) .nil .nil) (.node (o224_3 P) .nil .nil))) (.node (o48_0 P) (.node (o80_1 P) (.node (o144_2 P) (.node (o272_3 P) .nil .nil) .nil) (.node (o208_3 P) .nil .nil)) (.node (o112_1 P) (.node (o176_2 P) .nil .nil) (.node (o240_3 P) .nil .nil)))) (.node (o24_0 P) (.node (o40_0 P) (.node (o72_1 P) (.node (o136_2 P) (.node (o264_3 P) .nil .nil) .nil) (.node (o200_3 P) .nil .nil)) (.node (o104_1 P) (.node (o168_2 P) .nil .nil) (.node (o232_3 P) .nil .nil))) (.node (o56_0 P) (.node (o88_1 P) (.node (o152_2 P) .nil .nil) (.node (o216_3 P) .nil .nil)) (.node (o120_1 P) (.node (o184_2 P) .nil .nil) (.node (o248_3 P) .nil .nil))))) (.node (o12_3 P) (.node (o20_0 P) (.node (o36_0 P) (.node (o68_1 P) (.node (o132_2 P) (.node (o260_3 P) .nil .nil) .nil) (.node (o196_2 P) .nil .nil)) (.node (o100_1 P) (.node (o164_2 P) .nil .nil) (.node (o228_3 P) .nil .nil))) (.node (o52_0 P) (.node (o84_1 P) (.node (o148_2 P) (.node (o276_3 P) .nil .nil) .nil) (.node (o212_3 P) .nil .nil)) (.node (o116_1 P) (.node (o180_2 P) .nil .nil) (.node (o244_3 P) .nil .nil)))) (.node (o28_0 P) (.node (o44_0 P) (.node (o76_1 P) (.node (o140_2 P) (.node (o268_3 P) .nil .nil) .nil) (.node (o204_3 P) .nil .nil)) (.node (o108_1 P) (.node (o172_2 P) .nil .nil) (.node (o236_3 P) .nil .nil))) (.node (o60_1 P) (.node (o92_1 P) (.node (o156_2 P) .nil .nil) (.node (o220_3 P) .nil .nil)) (.node (o124_1 P) (.node (o188_2 P) .nil .nil) (.node (o252_3 P) .nil .nil)))))) (.node (boot_o_6 P) (.node (boot_o_10 P) (.node (o18_0 P) (.node (o34_0 P) (.node (o66_1 P) (.node (o130_1 P) (.node (o258_3 P) .nil .nil) .nil) (.node (o194_2 P) .nil .nil)) (.node (o98_1 P) (.node (o162_2 P) .nil .nil) (.node (o226_3 P) .nil .nil))) (.node (o50_0 P) (.node (o82_1 P) (.node (o146_2 P) (.node (o274_3 P) .nil .nil) .nil) (.node (o210_3 P) .nil .nil)) (.node (o114_1 P) (.node (o178_2 P) .nil .nil) (.node (o242_3 P) .nil .nil)))) (.node (o26_0 P) (.node (o42_0 P) (.node (o74_1 P) (.node (o138_2 P) (.node (o266_3 P) .nil .nil) .nil) (.node (o202_3 P) .nil .nil)) (.node (o106_1 P) (.node (o170_2 P) .nil .nil) (.node (o234_3 P) .nil .nil))) (.node (o58_0 P) (.node (o90_1 P) (.node (o154_2 P) .nil .nil) (.node (o218_3 P) .nil .nil)) (.node (o122_1 P) (.node (o186_2 P) .nil .nil) (.node (o250_3 P) .nil .nil))))) (.node (o14a P) (.node (o22_0 P) (.node (o38_0 P) (.node (o70_1 P) (.node (o134_2 P) (.node (o262_3 P) .nil .nil) .nil) (.node (o198_3 P) .nil .nil)) (.node (o102_1 P) (.node (o166_2 P) .nil .nil) (.node (o230_3 P) .nil .nil))) (.node (o54_0 P) (.node (o86_1 P) (.node (o150_2 P) (.node (o278_3 P) .nil .nil) .nil) (.node (o214_3 P) .nil .nil)) (.node (o118_1 P) (.node (o182_2 P) .nil .nil) (.node (o246_3 P) .nil .nil)))) (.node (o30_0 P) (.node (o46_0 P) (.node (o78_1 P) (.node (o142_2 P) (.node (o270_3 P) .nil .nil) .nil) (.node (o206_3 P) .nil .nil)) (.node (o110_1 P) (.node (o174_2 P) .nil .nil) (.node (o238_3 P) .nil .nil))) (.node (o62_1 P) (.node (o94_1 P) (.node (o158_2 P) .nil .nil) (.node (o222_3 P) .nil .nil)) (.node (o126_1 P) (.node (o190_2 P) .nil .nil) (.node (o254_3 P) .nil .nil))))))))
noncomputable def S3 (w : World) (os : OsState) : SharedT := ⟨T3 w.params, 280, (PySem.Life.mk [] [] [] 0 [] [] false #[] [] 0 false false false 0 [2000, 10, 10] false 0 true [] [] 0 false), ⟨[]⟩, (PySem.Drawn.mk 0 0 0 0), 521, os⟩
noncomputable def T4 (P : Params) : BT := (.node (boot_o_0 P) (.node (boot_o_1 P) (.node (o3_4 P) (.node (boot_o_7 P) (.node (o15_0 P) (.node (o31_1 P) (.node (o63_1 P) (.node (o127_2 P) (.node (o255_3 P) .nil .nil) .nil) (.node (o191_2 P) (.node (o319_4 P) .nil .nil) .nil)) (.node (o95_1 P) (.node (o159_2 P) (.node (o287_4 P) .nil .nil) .nil) (.node (o223_3 P) (.node (o351_4 P) .nil .nil) .nil))) (.node (o47_0 P) (.node (o79_1 P) (.node (o143_2 P) (.node (o271_3 P) .nil .nil) .nil) (.node (o207_3 P) (.node (o335_4 P) .nil .nil) .nil)) (.node (o111_1 P) (.node (o175_2 P) (.node (o303_4 P) .nil .nil) .nil) (.node (o239_3 P) (.node (o367_4 P) .nil .nil) .nil)))) (.node (o23_0 P) (.node (o39_0 P) (.node (o71_1 P) (.node (o135_2 P) (.node (o263_3 P) .nil .nil) .nil) (.node (o199_3 P) (.node (o327_4 P) .nil .nil) .nil)) (.node (o103_1 P) (.node (o167_2 P) (.node (o295_4 P) .nil .nil) .nil) (.node (o231_3 P) (.node (o359_4 P) .nil .nil) .nil))) (.node (o55_0 P) (.node (o87_1 P) (.node (o151_2 P) (.node (o279_3 P) .nil .nil) .nil) (.node (o215_3 P) (.node (o343_4 P) .nil .nil) .nil)) (.node (o119_1 P) (.node (o183_2 P) (.node (o311_4 P) .nil .nil) .nil) (.node (o247_3 P) .nil .nil))))) (.node (o11a P) (.node (o19_0 P) (.node (o35_0 P) (.node (o67_1 P) (.node (o131_1 P) (.node (o259_3 P) .nil .nil) .nil) (.node (o195_2 P) (.node (o323_4 P) .nil .nil) .nil)) (.node (o99_1 P) (.node (o163_2 P) (.node (o291_4 P) .nil .nil) .nil) (.node (o227_3 P) (.node (o355_4 P) .nil .nil) .nil))) (.node (o51_0 P) (.node (o83_1 P) (.node (o147_2 P) (.node (o275_3 P) .nil .nil) .nil) (.node (o211_3 P) (.node (o339_4 P) .nil .nil) .nil)) (.node (o115_1 P) (.node (o179_2 P) (.node (o307_4 P) .nil .nil) .nil) (.node (o243_3 P) .nil .nil)))) (.node (o27_0 P) (.node (o43_0 P) (.node (o75_1 P) (.node (o139_2 P) (.node (o267_3 P) .nil .nil) .nil) (.node (o203_3 P) (.node (o331_4 P) .nil .nil) .nil)) (.node (o107_1 P) (.node (o171_2 P) (.node (o299_4 P) .nil .nil) .nil) (.node (o235_3 P) (.node (o363_4 P) .nil .nil) .nil))) (.node (o59_1 P) (.node (o91_1 P) (.node (o155_4 P) (.node (o283_4 P) .nil .nil) .nil) (.node (o219_3 P) (.node (o347_4 P) .nil .nil) .nil)) (.node (o123_1 P) (.node (o187_2 P) (.node (o315_4 P) .nil .nil) .nil) (.node (o251_3 P) .nil .nil)))))) (.node (boot_o_5 P) (.node (boot_o_9 P) (.node (o17_0 P) (.node (o33_0 P) (.node (o65_1 P) (.node (o129_1 P) (.node (o257_3 P) .nil .nil) .nil) (.node (o193_2 P) (.node (o321_4 P) .nil .nil) .nil)) (.node (o97_1 P) (.node (o161_2 P) (.node (o289_4 P) .nil .nil) .nil) (.node (o225_3 P) (.node (o353_4 P) .nil .nil) .nil))) (.node (o49_0 P) (.node (o81_1 P) (.node (o145_2 P) (.node (o273_3 P) .nil .nil) .nil) (.node (o209_3 P) (.node (o337_4 P) .nil .nil) .nil)) (.node (o113_1 P) (.node (o177_2 P) (.node (o305_4 P) .nil .nil) .nil) (.node (o241_3 P) .nil .nil)))) (.node (o25_0 P) (.node (o41_0 P) (.node (o73_1 P) (.node (o137_2 P) (.node (o265_3 P) .nil .nil) .nil) (.node (o201_3 P) (.node (o329_4 P) .nil .nil) .nil)) (.node (o105_1 P) (.node (o169_2 P) (.node (o297_4 P) .nil .nil) .nil) (.node (o233_3 P) (.node (o361_4 P) .nil .nil) .nil))) (.node (o57_0 P) (.node (o89_1 P) (.node (o153_2 P) (.node (o281_4 P) .nil .nil) .nil) (.node (o217_3 P) (.node (o345_4 P) .nil .nil) .nil)) (.node (o121_1 P) (.node (o185_2 P) (.node (o313_4 P) .nil .nil) .nil) (.node (o249_3 P) .nil .nil))))) (.node (o13a P) (.node (o21_0 P) (.node (o37_0 P) (.node (o69_1 P) (.node (o133_2 P) (.node (o261_3 P) .nil .nil) .nil) (.node (o197_2 P) (.node (o325_4 P) .nil .nil) .nil)) (.node (o101_1 P) (.node (o165_2 P) (.node (o293_4 P) .nil .nil) .nil) (.node (o229_3 P) (.node (o357_4 P) .nil .nil) .nil))) (.node (o53_0 P) (.node (o85_1 P) (.node (o149_2 P) (.node (o277_3 P) .nil .nil) .nil) (.node (o213_3 P) (.node (o341_4 P) .nil .nil) .nil)) (.node (o117_1 P) (.node (o181_2 P) (.node (o309_4 P) .nil .nil) .nil) (.node (o245_3 P) .nil .nil)))) (.node (o29_0 P) (.node (o45_0 P) (.node (o77_1 P) (.node (o141_2 P) (.node (o269_3 P) .nil .nil) .nil) (.node (o205_3 P) (.node (o333_4 P) .nil .nil) .nil)) (.node (o109_1 P) (.node (o173_2 P) (.node (o301_4 P) .nil .nil) .nil) (.node (o237_3 P) (.node (o365_4 P) .nil .nil) .nil))) (.node (o61_1 P) (.node (o93_1 P) (.node (o157_2 P) (.node (o285_4 P) .nil .nil) .nil) (.node (o221_3 P) (.node (o349_4 P) .nil .nil) .nil)) (.node (o125_1 P) (.node (o189_2 P) (.node (o317_4 P) .nil .nil) .nil) (.node (o253_3 P) .nil .nil))))))) (.node (boot_o_2 P) (.node (boot_o_4 P) (.node (boot_o_8 P) (.node (o16_0 P) (.node (o32_0 P) (.node (o64_1 P) (.node (o128_1 P) (.node (o256_3 P) .nil .nil) .nil) (.node (o192_2 P) (.node (o320_4 P) .nil .nil) .nil)) (.node (o96_1 P) (.node (o160_2 P) (.node (o288_4 P) .nil .nil) .nil) (.node (o224_3 P) (.node (o352_4 P) .nil .nil) .nil))) (.node (o48_0 P) (.node (o80_1 P) (.node (o144_2 P) (.node (o272_3 P) .nil .nil) .nil) (.node (o208_3 P) (.node (o336_4 P) .nil .nil) .nil)) (.node (o112_1 P) (.node (o176_2 P) (.node (o304_4 P) .nil .nil) .nil) (.node (o240_3 P) (.node (o368_4 P) .nil .nil) .nil)))) (.node (o24_0 P) (.node (o40_0 P) (.node (o72_1 P) (.node (o136_2 P) (.node (o264_3 P) .nil .nil) .nil) (.node (o200_3 P) (.node (o328_4 P) .nil .nil) .nil)) (.node (o104_1 P) (.node (o168_2 P) (.node (o296_4 P) .nil .nil) .nil) (.node (o232_3 P) (.node (o360_4 P) .nil .nil) .nil))) (.node (o56_0 P) (.node (o88_1 P) (.node (o152_2 P) (.node (o280_4 P) .nil .nil) .nil) (.node (o216_3 P) (.node (o344_4 P) .nil .nil) .nil)) (.node (o120_1 P) (.node (o184_2 P) (.node (o312_4 P) .nil .nil) .nil) (.node (o248_3 P) .nil .nil))))) (.node (o12_4 P) (.node (o20_0 P) (.node (o36_0 P) (.node (o68_1 P) (.node (o132_2 P) (.node (o260_3 P) .nil .nil) .nil) (.node (o196_2 P) (.node (o324_4 P) .nil .nil) .nil)) (.node (o100_1 P) (.node (o164_2 P) (.node (o292_4 P) .nil .nil) .nil) (.node (o228_3 P) (.node (o356_4 P) .nil .nil) .nil))) (.node (o52_0 P) (.node (o84_1 P) (.node (o148_2 P) (.node (o276_3 P) .nil .nil) .nil) (.node (o212_3 P) (.node (o340_4 P) .nil .nil) .nil)) (.node (o116_1 P) (.node (o180_2 P) (.node (o308_4 P) .nil .nil) .nil) (.node (o244_3 P) .nil .nil)))) (.node (o28_0 P) (.node (o44_0 P) (.node (o76_1 P) (.node (o140_2 P) (.node (o268_3 P) .nil .nil) .nil) (.node (o204_3 P) (.node (o332_4 P) .nil .nil) .nil)) (.node (o108_1 P) (.node (o172_2 P) (.node (o300_4 P) .nil .nil) .nil) (.node (o236_3 P) (.node (o364_4 P) .nil .nil) .nil))) (.node (o60_1 P) (.node (o92_1 P) (.node (o156_2 P) (.node (o284_4 P) .nil .nil) .nil) (.node (o220_3 P) (.node (o348_4 P) .nil .nil) .nil)) (.node (o124_1 P) (.node (o188_2 P) (.node (o316_4 P) .nil .nil) .nil) (.node (o252_3 P) .nil .nil)))))) (.node (boot_o_6 P) (.node (boot_o_10 P) (.node (o18_0 P) (.node (o34_0 P) (.node (o66_1 P) (.node (o130_1 P) (.node (o258_3 P) .nil .nil) .nil) (.node (o194_2 P) (.node (o322_4 P) .nil .nil) .nil)) (.node (o98_1 P) (.node (o162_2 P) (.node (o290_4 P) .nil .nil) .nil) (.node (o226_3 P) (.node (o354_4 P) .nil .nil) .nil))) (.node (o50_0 P) (.node (o82_1 P) (.node (o146_2 P) (.node (o274_3 P) .nil .nil) .nil) (.node (o210_3 P) (.node (o338_4 P) .nil .nil) .nil)) (.node (o114_1 P) (.node (o178_2 P) (.node (o306_4 P) .nil .nil) .nil) (.node (o242_3 P) .nil .nil)))) (.node (o26_0 P) (.node (o42_0 P) (.node (o74_1 P) (.node (o138_2 P) (.node (o266_3 P) .nil .nil) .nil) (.node (o202_3 P) (.node (o330_4 P) .nil .nil) .nil)) (.node (o106_1 P) (.node (o170_2 P) (.node (o298_4 P) .nil .nil) .nil) (.node (o234_3 P) (.node (o362_4 P) .nil .nil) .nil))) (.node (o58_0 P) (.node (o90_1 P) (.node (o154_2 P) (.node (o282_4 P) .nil .nil) .nil) (.node (o218_3 P) (.node (o346_4 P) .nil .nil) .nil)) (.node (o122_1 P) (.node (o186_2 P) (.node (o314_4 P) .nil .nil) .nil) (.node (o250_3 P) .nil .nil))))) (.node (o14a P) (.node (o22_0 P) (.node (o38_0 P) (.node (o70_1 P) (.node (o134_2 P) (.node (o262_3 P) .nil .nil) .nil) (.node (o198_3 P) (.node (o326_4 P) .nil .nil) .nil)) (.node (o102_1 P) (.node (o166_2 P) (.node (o294_4 P) .nil .nil) .nil) (.node (o230_3 P) (.node (o358_4 P) .nil .nil) .nil))) (.node (o54_0 P) (.node (o86_1 P) (.node (o150_2 P) (.node (o278_3 P) .nil .nil) .nil) (.node (o214_3 P) (.node (o342_4 P) .nil .nil) .nil)) (.node (o118_1 P) (.node (o182_2 P) (.node (o310_4 P) .nil .nil) .nil) (.node (o246_3 P) .nil .nil)))) (.node (o30_0 P) (.node (o46_0 P) (.node (o78_1 P) (.node (o142_2 P) (.node (o270_3 P) .nil .nil) .nil) (.node (o206_3 P) (.node (o334_4 P) .nil .nil) .nil)) (.node (o110_1 P) (.node (o174_2 P) (.node (o302_4 P) .nil .nil) .nil) (.node (o238_3 P) (.node (o366_4 P) .nil .nil) .nil))) (.node (o62_1 P) (.node (o94_1 P) (.node (o158_2 P) (.node (o286_4 P) .nil .nil) .nil) (.node (o222_3 P) (.node (o350_4 P) .nil .nil) .nil)) (.node (o126_1 P) (.node (o190_2 P) (.node (o318_4 P) .nil .nil) .nil) (.node (o254_3 P) .nil .nil))))))))
noncomputable def S4 (w : World) (os : OsState) : SharedT := ⟨T4 w.params, 369, (PySem.Life.mk [] [] [] 0 [] [] false #[] [] 0 false false false 0 [2000, 10, 10] false 0 true [] [] 0 false), ⟨[]⟩, (PySem.Drawn.mk 0 0 0 0), 626, os⟩
noncomputable def T5 (P : Params) : BT := (.node (boot_o_0 P) (.node (boot_o_1 P) (.node (o3_5 P) (.node (boot_o_7 P) (.node (o15_0 P) (.node (o31_1 P) (.node (o63_1 P) (.node (o127_2 P) (.node (o255_3 P) .nil .nil) (.node (o383_5 P) .nil .nil)) (.node (o191_2 P) (.node (o319_4 P) .nil .nil) .nil)) (.node (o95_1 P) (.node (o159_2 P) (.node (o287_4 P) .nil .nil) (.node (o415_5 P) .nil .nil)) (.node (o223_3 P) (.node (o351_4 P) .nil .nil) .nil))) (.node (o47_0 P) (.node (o79_1 P) (.node (o143_2 P) (.node (o271_3 P) .nil .nil) (.node (o399_5 P) .nil .nil)) (.node (o207_3 P) (.node (o335_4 P) .nil .nil) .nil)) (.node (o111_1 P) (.node (o175_2 P) (.node (o303_4 P) .nil .nil) (.node (o431_5 P) .nil .nil)) (.node (o239_3 P) (.node (o367_4 P) .nil .nil) .nil)))) (.node (o23_0 P) (.node (o39_0 P) (.node (o71_1 P) (.node (o135_2 P) (.node (o263_3 P) .nil .nil) (.node (o391_5 P) .nil .nil)) (.node (o199_3 P) (.node (o327_4 P) .nil .nil) .nil)) (.node (o103_1 P) (.node (o167_2 P) (.node (o295_4 P) .nil .nil) (.node (o423_5 P) .nil .nil)) (.node (o231_3 P) (.node (o359_4 P) .nil .nil) .nil))) (.node (o55_0 P) (.node (o87_1 P) (.node (o151_2 P) (.node (o279_3 P) .nil .nil) (.node (o407_5 P) .nil .nil)) (.node (o215_3 P) (.node (o343_4 P) .nil .nil) .nil)) (.node (o119_1 P) (.node (o183_2 P) (.node (o311_4 P) .nil .nil) .nil) (.node (o247_3 P) (.node (o375_5 P) .nil .nil) .nil))))) (.node (o11a P) (.node (o19_0 P) (.node (o35_0 P) (.node (o67_1 P) (.node (o131_1 P) (.node (o259_3 P) .nil .nil) (.node (o387_5 P) .nil .nil)) (.node (o195_5 P) (.node (o323_4 P) .nil .nil) .nil)) (.node (o99_1 P) (.node (o163_2 P) (.node (o291_4 P) .nil .nil) (.node (o419_5 P) .nil .nil)) (.node (o227_3 P) (.node (o355_4 P) .nil .nil) .nil))) (.node (o51_0 P) (.node (o83_1 P) (.node (o147_2 P) (.node (o275_3 P) .nil .nil) (.node (o403_5 P) .nil .nil)) (.node (o211_3 P) (.node (o339_4 P) .nil .nil) .nil)) (.node (o115_1 P) (.node (o179_2 P) (.node (o307_4 P) .nil .nil) (.node (o435_5 P) .nil .nil)) (.node (o243_3 P) (.node (o371_5 P) .nil .nil) .nil)))) (.node (o27_0 P) (.node (o43_0 P) (.node (o75_1 P) (.node (o139_2 P) (.node (o267_3 P) .nil .nil) (.node (o395_5 P) .nil .nil)) (.node (o203_3 P) (.node (o331_4 P) .nil .nil) .nil)) (.node (o107_1 P) (.node (o171_2 P) (.node (o299_4 P) .nil .nil) (.node (o427_5 P) .nil .nil)) (.node (o235_3 P) (.node (o363_4 P) .nil .nil) .nil))) (.node (o59_1 P) (.node (o91_1 P) (.node (o155_4 P) (.node (o283_4 P) .nil .nil) (.node (o411_5 P) .nil .nil)) (.node (o219_3 P) (.node (o347_4 P) .nil .nil) .nil)) (.node (o123_1 P) (.node (o187_2 P) (.node (o315_4 P) .nil .nil) .nil) (.node (o251_3 P) (.node (o379_5 P) .nil .nil) .nil)))))) (.node (boot_o_5 P) (.node (boot_o_9 P) (.node (o17_0 P) (.node (o33_0 P) (.node (o65_1 P) (.node (o129_1 P) (.node (o257_3 P) .nil .nil) (.node (o385_5 P) .nil .nil)) (.node (o193_2 P) (.node (o321_4 P) .nil .nil) .nil)) (.node (o97_1 P) (.node (o161_2 P) (.node (o289_4 P) .nil .nil) (.node (o417_5 P) .nil .nil)) (.node (o225_3 P) (.node (o353_4 P) .nil .nil) .nil))) (.node (o49_0 P) (.node (o81_1 P) (.node (o145_2 P) (.node (o273_3 P) .nil .nil) (.node (o401_5 P) .nil .nil)) (.node (o209_3 P) (.node (o337_4 P) .nil .nil) .nil)) (.node (o113_1 P) (.node (o177_2 P) (.node (o305_4 P) .nil .nil) (.node (o433_5 P) .nil .nil)) (.node (o241_3 P) (.node (o369_5 P) .nil .nil) .nil)))) (.node (o25_0 P) (.node (o41_0 P) (.node (o73_1 P) (.node (o137_2 P) (.node (o265_3 P) .nil .nil) (.node (o393_5 P) .nil .nil)) (.node (o201_3 P) (.node (o329_4 P) .nil .nil) .nil)) (.node (o105_1 P) (.node (o169_2 P) (.node (o297_4 P) .nil .nil) (.node (o425_5 P) .nil .nil)) (.node (o233_3 P) (.node (o361_4 P) .nil .nil) .nil))) (.node (o57_0 P) (.node (o89_1 P) (.node (o153_2 P) (.node (o281_4 P) .nil .nil) (.node (o409_5 P) .nil .nil)) (.node (o217_3 P) (.node (o345_4 P) .nil .nil) .nil)) (.node (o121_1 P) (.node (o185_2 P) (.node (o313_4 P) .nil .nil) .nil) (.node (o249_3 P) (.node (o377_5 P) .nil .nil) .nil))))) (.node (o13a P) (.node (o21_0 P) (.node (o37_0 P) (.node (o69_1 P) (.node (o133_2 P) (.node (o261_3 P) .nil .nil) (.node (o389_5 P) .nil .nil)) (.node (o197_2 P) (.node (o325_4 P) .nil .nil) .nil)) (.node (o101_1 P) (.node (o165_2 P) (.node (o293_4 P) .nil .nil) (.node (o421_5 P) .nil .nil)) (.node (o229_3 P) (.node (o357_4 P) .nil .nil) .nil))) (.node (o53_0 P) (.node (o85_1 P) (.node (o149_2 P) (.node (o277_3 P) .nil .nil) (.node (o405_5 P) .nil .nil)) (.node (o213_3 P) (.node (o341_4 P) .nil .nil) .nil)) (.node (o117_1 P) (.node (o181_2 P) (.node (o309_4 P) .nil .nil) .nil) (.node (o245_3 P) (.node (o373_5 P) .nil .nil) .nil)))) (.node (o29_0 P) (.node (o45_0 P) (.node (o77_1 P) (.node (o141_2 P) (.node (o269_3 P) .nil .nil) (.node (o397_5 P) .nil .nil)) (.node (o205_3 P) (.node (o333_4 P) .nil .nil) .nil)) (.node (o109_1 P) (.node (o173_2 P) (.node (o301_4 P) .nil .nil) (.node (o429_5 P) .nil .nil)) (.node (o237_3 P) (.node (o365_4 P) .nil .nil) .nil))) (.node (o61_1 P) (.node (o93_1 P) (.node (o157_2 P) (.node (o285_4 P) .nil .nil) (.node (o413_5 P) .nil .nil)) (.node (o221_3 P) (.node (o349_4 P) .nil .nil) .nil)) (.node (o125_1 P) (.node (o189_2 P) (.node (o317_4 P) .nil .nil) .nil) (.node (o253_3 P) (.node (o381_5 P) .nil .nil) .nil))))))) (.node (boot_o_2 P) (.node (boot_o_4 P) (.node (boot_o_8 P) (.node (o16_0 P) (.node (o32_0 P) (.node (o64_1 P) (.node (o128_1 P) (.node (o256_3 P) .nil .nil) (.node (o384_5 P) .nil .nil)) (.node (o192_2 P) (.node (o320_4 P) .nil .nil) .nil)) (.node (o96_1 P) (.node (o160_2 P) (.node (o288_4 P) .nil .nil) (.node (o416_5 P) .nil .nil)) (.node (o224_3 P) (.node (o352_4 P) .nil .nil) .nil))) (.node (o48_0 P) (.node (o80_1 P) (.node (o144_2 P) (.node (o272_3 P) .nil .nil) (.node (o400_5 P) .nil .nil)) (.node (o208_3 P) (.node (o336_4 P) .nil .nil) .nil)) (.node (o112_1 P) (.node (o176_2 P) (.node (o304_4 P) .nil .nil) (.node (o432_5 P) .nil .nil)) (.node (o240_3 P) (.node (o368_4 P) .nil .nil) .nil)))) (.node (o24_0 P) (.node (o40_0 P) (.node (o72_1 P) (.node (o136_2 P) (.node (o264_3 P) .nil .nil) (.node (o392_5 P) .nil .nil)) (.node (o200_3 P) (.node (o328_4 P) .nil .nil) .nil)) (.node (o104_1 P) (.node (o168_2 P) (.node (o296_4 P) .nil .nil) (.node (o424_5 P) .nil .nil)) (.node (o232_3 P) (.node (o360_4 P) .nil .nil) .nil))) (.node (o56_0 P) (.node (o88_1 P) (.node (o152_2 P) (.node (o280_4 P) .nil .nil) (.node (o408_5 P) .nil .nil)) (.node (o216_3 P) (.node (o344_4 P) .nil .nil) .nil)) (.node (o120_1 P) (.node (o184_2 P) (.node (o312_4 P) .nil .nil) .nil) (.node (o248_3 P) (.node (o376_5 P) .nil .nil) .nil))))) (.node (o12_5 P) (.node (o20_0 P) (.node (o36_0 P) (.node (o68_1 P) (.node (o132_2 P) (.node (o260_3 P) .nil .nil) (.node (o388_5 P) .nil .nil)) (.node (o196_2 P) (.node (o324_4 P) .nil .nil) .nil)) (.node (o100_1 P) (.node (o164_2 P) (.node (o292_4 P) .nil .nil) (.node (o420_5 P) .nil .nil)) (.node (o228_3 P) (.node (o356_4 P) .nil .nil) .nil))) (.node (o52_0 P) (.node (o84_1 P) (.node (o148_2 P) (.node (o276_3 P) .nil .nil) (.node (o404_5 P) .nil .nil)) (.node (o212_3 P) (.node (o340_4 P) .nil .nil) .nil)) (.node (o116_1 P) (.node (o180_2 P) (.node (o308_4 P) .nil .nil) (.node (o436_5 P) .nil .nil)) (.node (o244_3 P) (.node (o372_5 P) .nil .nil) .nil)))) (.node (o28_0 P) (.node (o44_0 P) (.node (o76_1 P) (.node (o140_2 P) (.node (o268_3 P) .nil .nil) (.node (o396_5 P) .nil .nil)) (.node (o204_3 P) (.node (o332_4 P) .nil .nil) .nil)) (.node (o108_1 P) (.node (o172_2 P) (.node (o300_4 P) .nil .nil) (.node (o428_5 P) .nil .nil)) (.node (o236_3 P) (.node (o364_4 P) .nil .nil) .nil))) (.node (o60_1 P) (.node (o92_1 P) (.node (o156_2 P) (.node (o284_4 P) .nil .nil) (.node (o412_5 P) .nil .nil)) (.node (o220_3 P) (.node (o348_4 P) .nil .nil) .nil)) (.node (o124_1 P) (.node (o188_2 P) (.node (o316_4 P) .nil .nil) .nil) (.node (o252_3 P) (.node (o380_5 P) .nil .nil) .nil)))))) (.node (boot_o_6 P) (.node (boot_o_10 P) (.node (o18_0 P) (.node (o34_0 P) (.node (o66_1 P) (.node (o130_1 P) (.node (o258_3 P) .nil .nil) (.node (o386_5 P) .nil .nil)) (.node (o194_2 P) (.node (o322_4 P) .nil .nil) .nil)) (.node (o98_1 P) (.node (o162_2 P) (.node (o290_4 P) .nil .nil) (.node (o418_5 P) .nil .nil)) (.node (o226_3 P) (.node (o354_4 P) .nil .nil) .nil))) (.node (o50_0 P) (.node (o82_1 P) (.node (o146_2 P) (.node (o274_3 P) .nil .nil) (.node (o402_5 P) .nil .nil)) (.node (o210_3 P) (.node (o338_4 P) .nil .nil) .nil)) (.node (o114_1 P) (.node (o178_2 P) (.node (o306_4 P) .nil .nil) (.node (o434_5 P) .nil .nil)) (.node (o242_3 P) (.node (o370_5 P) .nil .nil) .nil)))) (.node (o26_0 P) (.node (o42_0 P) (.node (o74_1 P) (.node (o138_2 P) (.node (o266_3 P) .nil .nil) (.node (o394_5 P) .nil .nil)) (.node (o202_3 P) (.node (o330_4 P) .nil .nil) .nil)) (.node (o106_1 P) (.node (o170_2 P) (.node (o298_4 P) .nil .nil) (.node (o426_5 P) .nil .nil)) (.node (o234_3 P) (.node (o362_4 P) .nil .nil) .nil))) (.node (o58_0 P) (.node (o90_1 P) (.node (o154_2 P) (.node (o282_4 P) .nil .nil) (.node (o410_5 P) .nil .nil)) (.node (o218_3 P) (.node (o346_4 P) .nil .nil) .nil)) (.node (o122_1 P) (.node (o186_2 P) (.node (o314_4 P) .nil .nil) .nil) (.node (o250_3 P) (.node (o378_5 P) .nil .nil) .nil))))) (.node (o14a P) (.node (o22_0 P) (.node (o38_0 P) (.node (o70_1 P) (.node (o134_2 P) (.node (o262_3 P) .nil .nil) (.node (o390_5 P) .nil .nil)) (.node (o198_3 P) (.node (o326_4 P) .nil .nil) .nil)) (.node (o102_1 P) (.node (o166_2 P) (.node (o294_4 P) .nil .nil) (.node (o422_5 P) .nil .nil)) (.node (o230_3 P) (.node (o358_4 P) .nil .nil) .nil))) (.node (o54_0 P) (.node (o86_1 P) (.node (o150_2 P) (.node (o278_3 P) .nil .nil) (.node (o406_5 P) .nil .nil)) (.node (o214_3 P) (.node (o342_4 P) .nil .nil) .nil)) (.node (o118_1 P) (.node (o182_2 P) (.node (o310_4 P) .nil .nil) .nil) (.node (o246_3 P) (.node (o374_5 P) .nil .nil) .nil)))) (.node (o30_0 P) (.node (o46_0 P) (.node (o78_1 P) (.node (o142_2 P) (.node (o270_3 P) .nil .nil) (.node (o398_5 P) .nil .nil)) (.node (o206_3 P) (.node (o334_4 P) .nil .nil) .nil)) (.node (o110_1 P) (.node (o174_2 P) (.node (o302_4 P) .nil .nil) (.node (o430_5 P) .nil .nil)) (.node (o238_3 P) (.node (o366_4 P) .nil .nil) .nil))) (.node (o62_1 P) (.node (o94_1 P) (.node (o158_2 P) (.node (o286_4 P) .nil .nil) (.node (o414_5 P) .nil .nil)) (.node (o222_3 P) (.node (o350_4 P) .nil .nil) .nil)) (.node (o126_1 P) (.node (o190_2 P) (.node (o318_4 P) .nil .nil) .nil) (.node (o254_3 P) (.node (o382_5 P) .nil .nil) .nil))))))))
noncomputable def S5 (w : World) (os : OsState) : SharedT := ⟨T5 w.params, 437, (PySem.Life.mk [] [] [] 0 [] [] false #[] [] 0 false false false 0 [2000, 10, 10] false 0 true [] [] 0 false), ⟨[]⟩, (PySem.Drawn.mk 0 0 0 0), 705, os⟩
noncomputable def T6 (P : Params) : BT := (.node (boot_o_0 P) (.node (boot_o_1 P) (.node (o3_6 P) (.node (boot_o_7 P) (.node (o15_0 P) (.node (o31_1 P) (.node (o63_1 P) (.node (o127_2 P) (.node (o255_3 P) (.node (o511_6 P) .nil .nil) .nil) (.node (o383_5 P) .nil .nil)) (.node (o191_2 P) (.node (o319_4 P) .nil .nil) (.node (o447_6 P) .nil .nil))) (.node (o95_1 P) (.node (o159_2 P) (.node (o287_4 P) (.node (o543_6 P) .nil .nil) .nil) (.node (o415_5 P) .nil .nil)) (.node (o223_3 P) (.node (o351_4 P) .nil .nil) (.node (o479_6 P) .nil .nil)))) (.node (o47_0 P) (.node (o79_1 P) (.node (o143_2 P) (.node (o271_3 P) (.node (o527_6 P) .nil .nil) .nil) (.node (o399_5 P) .nil .nil)) (.node (o207_3 P) (.node (o335_4 P) .nil .nil) (.node (o463_6 P) .nil .nil))) (.node (o111_1 P) (.node (o175_2 P) (.node (o303_4 P) .nil .nil) (.node (o431_5 P) .nil .nil)) (.node (o239_3 P) (.node (o367_4 P) .nil .nil) (.node (o495_6 P) .nil .nil))))) (.node (o23_0 P) (.node (o39_0 P) (.node (o71_1 P) (.node (o135_2 P) (.node (o263_3 P) (.node (o519_6 P) .nil .nil) .nil) (.node (o391_5 P) .nil .nil)) (.node (o199_3 P) (.node (o327_4 P) .nil .nil) (.node (o455_6 P) .nil .nil))) (.node (o103_1 P) (.node (o167_2 P) (.node (o295_4 P) (.node (o551_6 P) .nil .nil) .nil) (.node (o423_5 P) .nil .nil)) (.node (o231_3 P) (.node (o359_4 P) .nil .nil) (.node (o487_6 P) .nil .nil)))) (.node (o55_0 P) (.node (o87_1 P) (.node (o151_2 P) (.node (o279_3 P) (.node (o535_6 P) .nil .nil) .nil) (.node (o407_5 P) .nil .nil)) (.node (o215_3 P) (.node (o343_4 P) .nil .nil) (.node (o471_6 P) .nil .nil))) (.node (o119_1 P) (.node (o183_2 P) (.node (o311_4 P) .nil .nil) (.node (o439_6 P) .nil .nil)) (.node (o247_3 P) (.node (o375_5 P) .nil .nil) (.node (o503_6 P) .nil .nil)))))) (.node (o11a P) (.node (o19_0 P) (.node (o35_0 P) (.node (o67_1 P) (.node (o131_1 P) (.node (o259_3 P) (.node (o515_6 P) .nil .nil) .nil) (.node (o387_5 P) .nil .nil)) (.node (o195_6 P) (.node (o323_4 P) .nil .nil) (.node (o451_6 P) .nil .nil))) (.node (o99_1 P) (.node (o163_2 P) (.node (o291_4 P) (.node (o547_6 P) .nil .nil) .nil) (.node (o419_5 P) .nil .nil)) (.node (o227_3 P) (.node (o355_4 P) .nil .nil) (.node (o483_6 P) .nil .nil)))) (.node (o51_0 P) (.node (o83_1 P) (.node (o147_2 P) (.node (o275_3 P) (.node (o531_6 P) .nil .nil) .nil) (.node (o403_5 P) .nil .nil)) (.node (o211_3 P) (.node (o339_4 P) .nil .nil) (.node (o467_6 P) .nil .nil))) (.node (o115_1 P) (.node (o179_2 P) (.node (o307_4 P) .nil .nil) (.node (o435_5 P) .nil .nil)) (.node (o243_3 P) (.node (o371_5 P) .nil .nil) (.node (o499_6 P) .nil .nil))))) (.node (o27_0 P) (.node (o43_0 P) (.node (o75_1 P) (.node (o139_2 P) (.node (o267_3 P) (.node (o523_6 P) .nil .nil) .nil) (.node (o395_5 P) .nil .nil)) (.node (o203_3 P) (.node (o331_4 P) .nil .nil) (.node (o459_6 P) .nil .nil))) (.node (o107_1 P) (.node (o171_2 P) (.node (o299_4 P) .nil .nil) (.node (o427_5 P) .nil .nil)) (.node (o235_3 P) (.node (o363_4 P) .nil .nil) (.node (o491_6 P) .nil .nil)))) (.node (o59_1 P) (.node (o91_1 P) (.node (o155_4 P) (.node (o283_4 P) (.node (o539_6 P) .nil .nil) .nil) (.node (o411_5 P) .nil .nil)) (.node (o219_3 P) (.node (o347_4 P) .nil .nil) (.node (o475_6 P) .nil .nil))) (.node (o123_1 P) (.node (o187_2 P) (.node (o315_4 P) .nil .nil) (.node (o443_6 P) .nil .nil)) (.node (o251_3 P) (.node (o379_5 P) .nil .nil) (.node (o507_6 P) .nil .nil))))))) (.node (boot_o_5 P) (.node (boot_o_9 P) (.node (o17_0 P) (.node (o33_0 P) (.node (o65_1 P) (.node (o129_1 P) (.node (o257_3 P) (.node (o513_6 P) .nil .nil) .nil) (.node (o385_5 P) .nil .nil)) (.node (o193_2 P) (.node (o321_4 P) .nil .nil) (.node (o449_6 P) .nil .nil))) (.node (o97_1 P) (.node (o161_2 P) (.node (o289_4 P) (.node (o545_6 P) .nil .nil) .nil) (.node (o417_5 P) .nil .nil)) (.node (o225_3 P) (.node (o353_4 P) .nil .nil) (.node (o481_6 P) .nil .nil)))) (.node (o49_0 P) (.node (o81_1 P) (.node (o145_2 P) (.node (o273_3 P) (.node (o529_6 P) .nil .nil) .nil) (.node (o401_5 P) .nil .nil)) (.node (o209_3 P) (.node (o337_4 P) .nil .nil) (.node (o465_6 P) .nil .nil))) (.node (o113_1 P) (.node (o177_2 P) (.node (o305_4 P) .nil .nil) (.node (o433_5 P) .nil .nil)) (.node (o241_3 P) (.node (o369_5 P) .nil .nil) (.node (o497_6 P) .nil .nil))))) (.node (o25_0 P) (.node (o41_0 P) (.node (o73_1 P) (.node (o137_2 P) (.node (o265_3 P) (.node (o521_6 P) .nil .nil) .nil) (.node (o393_5 P) .nil .nil)) (.node (o201_3 P) (.node (o329_4 P) .nil .nil) (.node (o457_6 P) .nil .nil))) (.node (o105_1 P) (.node (o169_2 P) (.node (o297_4 P) (.node (o553_6 P) .nil .nil) .nil) (.node (o425_5 P) .nil .nil)) (.node (o233_3 P) (.node (o361_4 P) .nil .nil) (.node (o489_6 P) .nil .nil)))) (.node (o57_0 P) (.node (o89_1 P) (.node (o153_2 P) (.node (o281_4 P) (.node (o537_6 P) .nil .nil) .nil) (.node (o409_5 P) .nil .nil)) (.node (o217_3 P) (.node (o345_4 P) .nil .nil) (.node (o473_6 P) .nil .nil))) (.node (o121_1 P) (.node (o185_2 P) (.node (o313_4 P) .nil .nil) (.node (o441_6 P) .nil .nil)) (.node (o249_3 P) (.node (o377_5 P) .nil .nil) (.node (o505_6 P) .nil .nil)))))) (.node (o13a P) (.node (o21_0 P) (.node (o37_0 P) (.node (o69_1 P) (.node (o133_2 P) (.node (o261_3 P) (.node (o517_6 P) .nil .nil) .nil) (.node (o389_5 P) .nil .nil)) (.node (o197_2 P) (.node (o325_4 P) .nil .nil) (.node (o453_6 P) .nil .nil))) (.node (o101_1 P) (.node (o165_2 P) (.node (o293_4 P) (.node (o549_6 P) .nil .nil) .nil) (.node (o421_5 P) .nil .nil)) (.node (o229_3 P) (.node (o357_4 P) .nil .nil) (.node (o485_6 P) .nil .nil)))) (.node (o53_0 P) (.node (o85_1 P) (.node (o149_2 P) (.node (o277_3 P) (.node (o533_6 P) .nil .nil) .nil) (.node (o405_5 P) .nil .nil)) (.node (o213_3 P) (.node (o341_4 P) .nil .nil) (.node (o469_6 P) .nil .nil))) (.node (o117_1 P) (.node (o181_2 P) (.node (o309_4 P) .nil .nil) (.node (o437_6 P) .nil .nil)) (.node (o245_3 P) (.node (o373_5 P) .nil .nil) (.node (o501_6 P) .nil .nil))))) (.node (o29_0 P) (.node (o45_0 P) (.node (o77_1 P) (.node (o141_2 P) (.node (o269_3 P) (.node (o525_6 P) .nil .nil) .nil) (.node (o397_5 P) .nil .nil)) (.node (o205_3 P) (.node (o333_4 P) .nil .nil) (.node (o461_6 P) .nil .nil))) (.node (o109_1 P) (.node (o173_2 P) (.node (o301_4 P) .nil .nil) (.node (o429_5 P) .nil .nil)) (.node (o237_3 P) (.node (o365_4 P) .nil .nil) (.node (o493_6 P) .nil .nil)))) (.node (o61_1 P) (.node (o93_1 P) (.node (o157_2 P) (.node (o285_4 P) (.node (o541_6 P) .nil .nil) .nil) (.node (o413_5 P) .nil .nil)) (.node (o221_3 P) (.node (o349_4 P) .nil .nil) (.node (o477_6 P) .nil .nil))) (.node (o125_1 P) (.node (o189_2 P) (.node (o317_4 P) .nil .nil) (.node (o445_6 P) .nil .nil)) (.node (o253_3 P) (.node (o381_5 P) .nil .nil) (.node (o509_6 P) .nil .nil)))))))) (.node (boot_o_2 P) (.node (boot_o_4 P) (.node (boot_o_8 P) (.node (o16_0 P) (.node (o32_0 P) (.node (o64_1 P) (.node (o128_1 P) (.node (o256_3 P) (.node (o512_6 P) .nil .nil) .nil) (.node (o384_5 P) .nil .nil)) (.node (o192_2 P) (.node (o320_4 P) .nil .nil) (.node (o448_6 P) .nil .nil))) (.node (o96_1 P) (.node (o160_2 P) (.node (o288_4 P) (.node (o544_6 P) .nil .nil) .nil) (.node (o416_5 P) .nil .nil)) (.node (o224_3 P) (.node (o352_4 P) .nil .nil) (.node (o480_6 P) .nil .nil)))) (.node (o48_0 P) (.node (o80_1 P) (.node (o144_2 P) (.node (o272_3 P) (.node (o528_6 P) .nil .nil) .nil) (.node (o400_5 P) .nil .nil)) (.node (o208_3 P) (.node (o336_4 P) .nil .nil) (.node (o464_6 P) .nil .nil))) (.node (o112_1 P) (.node (o176_2 P) (.node (o304_4 P) .nil .nil) (.node (o432_5 P) .nil .nil)) (.node (o240_3 P) (.node (o368_4 P) .nil .nil) (.node (o496_6 P) .nil .nil))))) (.node (o24_0 P) (.node (o40_0 P) (.node (o72_1 P) (.node (o136_2 P) (.node (o264_3 P) (.node (o520_6 P) .nil .nil) .nil) (.node (o392_5 P) .nil .nil)) (.node (o200_3 P) (.node (o328_4 P) .nil .nil) (.node (o456_6 P) .nil .nil))) (.node (o104_1 P) (.node (o168_2 P) (.node (o296_4 P) (.node (o552_6 P) .nil .nil) .nil) (.node (o424_5 P) .nil .nil)) (.node (o232_3 P) (.node (o360_4 P) .nil .nil) (.node (o488_6 P) .nil .nil)))) (.node (o56_0 P) (.node (o88_1 P) (.node (o152_2 P) (.node (o280_4 P) (.node (o536_6 P) .nil .nil) .nil) (.node (o408_5 P) .nil .nil)) (.node (o216_3 P) (.node (o344_4 P) .nil .nil) (.node (o472_6 P) .nil .nil))) (.node (o120_1 P) (.node (o184_2 P) (.node (o312_4 P) .nil .nil) (.node (o440_6 P) .nil .nil)) (.node (o248_3 P) (.node (o376_5 P) .nil .nil) (.node (o504_6 P) .nil .nil)))))) (.node (o12_6 P) (.node (o20_0 P) (.node (o36_0 P) (.node (o68_1 P) (.node (o132_2 P) (.node (o260_3 P) (.node (o516_6 P) .nil .nil) .nil) (.node (o388_5 P) .nil .nil)) (.node (o196_2 P) (.node (o324_4 P) .nil .nil) (.node (o452_6 P) .nil .nil))) (.node (o100_1 P) (.node (o164_2 P) (.node (o292_4 P) (.node (o548_6 P) .nil .nil) .nil) (.node (o420_5 P) .nil .nil)) (.node (o228_3 P) (.node (o356_4 P) .nil .nil) (.node (o484_6 P) .nil .nil)))) (.node (o52_0 P) (.node (o84_1 P) (.node (o148_2 P) (.node (o276_3 P) (.node (o532_6 P) .nil .nil) .nil) (.node (o404_5 P) .nil .nil)) (.node (o212_3 P) (.node (o340_4 P) .nil .nil) (.node (o468_6 P) .nil .nil))) (.node (o116_1 P) (.node (o180_2 P) (.node (o308_4 P) .nil .nil) (.node (o436_5 P) .nil .nil)) (.node (o244_3 P) (.node (o372_5 P) .nil .nil) (.node (o500_6 P) .nil .nil))))) (.node (o28_0 P) (.node (o44_0 P) (.node (o76_1 P) (.node (o140_2 P) (.node (o268_3 P) (.node (o524_6 P) .nil .nil) .nil) (.node (o396_5 P) .nil .nil)) (.node (o204_3 P) (.node (o332_4 P) .nil .nil) (.node (o460_6 P) .nil .nil))) (.node (o108_1 P) (.node (o172_2 P) (.node (o300_4 P) .nil .nil) (.node (o428_5 P) .nil .nil)) (.node (o236_3 P) (.node (o364_4 P) .nil .nil) (.node (o492_6 P) .nil .nil)))) (.node (o60_1 P) (.node (o92_1 P) (.node (o156_2 P) (.node (o284_4 P) (.node (o540_6 P) .nil .nil) .nil) (.node (o412_5 P) .nil .nil)) (.node (o220_3 P) (.node (o348_4 P) .nil .nil) (.node (o476_6 P) .nil .nil))) (.node (o124_1 P) (.node (o188_2 P) (.node (o316_4 P) .nil .nil) (.node (o444_6 P) .nil .nil)) (.node (o252_3 P) (.node (o380_5 P) .nil .nil) (.node (o508_6 P) .nil .nil))))))) (.node (boot_o_6 P) (.node (boot_o_10 P) (.node (o18_0 P) (.node (o34_0 P) (.node (o66_1 P) (.node (o130_1 P) (.node (o258_3 P) (.node (o514_6 P) .nil .nil) .nil) (.node (o386_5 P) .nil .nil)) (.node (o194_2 P) (.node (o322_4 P) .nil .nil) (.node (o450_6 P) .nil .nil))) (.node (o98_1 P) (.node (o162_2 P) (.node (o290_4 P) (.node (o546_6 P) .nil .nil) .nil) (.node (o418_5 P) .nil .nil)) (.node (o226_3 P) (.node (o354_4 P) .nil .nil) (.node (o482_6 P) .nil .nil)))) (.node (o50_0 P) (.node (o82_1 P) (.node (o146_2 P) (.node (o274_3 P) (.node (o530_6 P) .nil .nil) .nil) (.node (o402_5 P) .nil .nil)) (.node (o210_3 P) (.node (o338_4 P) .nil .nil) (.node (o466_6 P) .nil .nil))) (.node (o114_1 P) (.node (o178_2 P) (.node (o306_4 P) .nil .nil) (.node (o434_5 P) .nil .nil)) (.node (o242_3 P) (.node (o370_5 P) .nil .nil) (.node (o498_6 P) .nil .nil))))) (.node (o26_0 P) (.node (o42_0 P) (.node (o74_1 P) (.node (o138_2 P) (.node (o266_3 P) (.node (o522_6 P) .nil .nil) .nil) (.node (o394_5 P) .nil .nil)) (.node (o202_3 P) (.node (o330_4 P) .nil .nil) (.node (o458_6 P) .nil .nil))) (.node (o106_1 P) (.node (o170_2 P) (.node (o298_4 P) .nil .nil) (.node (o426_5 P) .nil .nil)) (.node (o234_3 P) (.node (o362_4 P) .nil .nil) (.node (o490_6 P) .nil .nil)))) (.node (o58_0 P) (.node (o90_1 P) (.node (o154_2 P) (.node (o282_4 P) (.node (o538_6 P) .nil .nil) .nil) (.node (o410_5 P) .nil .nil)) (.node (o218_3 P) (.node (o346_4 P) .nil .nil) (.node (o474_6 P) .nil .nil))) (.node (o122_1 P) (.node (o186_2 P) (.node (o314_4 P) .nil .nil) (.node (o442_6 P) .nil .nil)) (.node (o250_3 P) (.node (o378_5 P) .nil .nil) (.node (o506_6 P) .nil .nil)))))) (.node (o14a P) (.node (o22_0 P) (.node (o38_0 P) (.node (o70_1 P) (.node (o134_2 P) (.node (o262_3 P) (.node (o518_6 P) .nil .nil) .nil) (.node (o390_5 P) .nil .nil)) (.node (o198_3 P) (.node (o326_4 P) .nil .nil) (.node (o454_6 P) .nil .nil))) (.node (o102_1 P) (.node (o166_2 P) (.node (o294_4 P) (.node (o550_6 P) .nil .nil) .nil) (.node (o422_5 P) .nil .nil)) (.node (o230_3 P) (.node (o358_4 P) .nil .nil) (.node (o486_6 P) .nil .nil)))) (.node (o54_0 P) (.node (o86_1 P) (.node (o150_2 P) (.node (o278_3 P) (.node (o534_6 P) .nil .nil) .nil) (.node (o406_5 P) .nil .nil)) (.node (o214_3 P) (.node (o342_4 P) .nil .nil) (.node (o470_6 P) .nil .nil))) (.node (o118_1 P) (.node (o182_2 P) (.node (o310_4 P) .nil .nil) (.node (o438_6 P) .nil .nil)) (.node (o246_3 P) (.node (o374_5 P) .nil .nil) (.node (o502_6 P) .nil .nil))))) (.node (o30_0 P) (.node (o46_0 P) (.node (o78_1 P) (.node (o142_2 P) (.node (o270_3 P) (.node (o526_6 P) .nil .nil) .nil) (.node (o398_5 P) .nil .nil)) (.node (o206_3 P) (.node (o334_4 P) .nil .nil) (.node (o462_6 P) .nil .nil))) (.node (o110_1 P) (.node (o174_2 P) (.node (o302_4 P) .nil .nil) (.node (o430_5 P) .nil .nil)) (.node (o238_3 P) (.node (o366_4 P) .nil .nil) (.node (o494_6 P) .nil .nil)))) (.node (o62_1 P) (.node (o94_1 P) (.node (o158_2 P) (.node (o286_4 P) (.node (o542_6 P) .nil .nil) .nil) (.node (o414_5 P) .nil .nil)) (.node (o222_3 P) (.node (o350_4 P) .nil .nil) (.node (o478_6 P) .nil .nil))) (.node (o126_1 P) (.node (o190_2 P) (.node (o318_4 P) .nil .nil) (.node (o446_6 P) .nil .nil)) (.node (o254_3 P) (.node (o382_5 P) .nil .nil) (.node (o510_6 P) .nil .nil)))))))))
noncomputable def S6 (w : World) (os : OsState) : SharedT := ⟨T6 w.params, 554, (PySem.Life.mk [] [] [] 0 [] [] false #[] [] 0 false false false 0 [2000, 10, 10] false 0 true [] [] 0 false), ⟨[]⟩, (PySem.Drawn.mk 0 0 0 0), 856, os⟩
noncomputable def Hf (P : Params) : Heap := ⟨⟨[boot_o_0 P, boot_o_1 P, boot_o_2 P, o3_6 P, boot_o_4 P, boot_o_5 P, boot_o_6 P, boot_o_7 P, boot_o_8 P, boot_o_9 P, boot_o_10 P, o11a P, o12_6 P, o13a P, o14a P, o15_0 P, o16_0 P, o17_0 P, o18_0 P, o19_0 P, o20_0 P, o21_0 P, o22_0 P, o23_0 P, o24_0 P, o25_0 P, o26_0 P, o27_0 P, o28_0 P, o29_0 P, o30_0 P, o31_1 P, o32_0 P, o33_0 P, o34_0 P, o35_0 P, o36_0 P, o37_0 P, o38_0 P, o39_0 P, o40_0 P, o41_0 P, o42_0 P, o43_0 P, o44_0 P, o45_0 P, o46_0 P, o47_0 P, o48_0 P, o49_0 P, o50_0 P, o51_0 P, o52_0 P, o53_0 P, o54_0 P, o55_0 P, o56_0 P, o57_0 P, o58_0 P, o59_1 P, o60_1 P, o61_1 P, o62_1 P, o63_1 P, o64_1 P, o65_1 P, o66_1 P, o67_1 P, o68_1 P, o69_1 P, o70_1 P, o71_1 P, o72_1 P, o73_1 P, o74_1 P, o75_1 P, o76_1 P, o77_1 P, o78_1 P, o79_1 P, o80_1 P, o81_1 P, o82_1 P, o83_1 P, o84_1 P, o85_1 P, o86_1 P, o87_1 P, o88_1 P, o89_1 P, o90_1 P, o91_1 P, o92_1 P, o93_1 P, o94_1 P, o95_1 P, o96_1 P, o97_1 P, o98_1 P, o99_1 P, o100_1 P, o101_1 P, o102_1 P, o103_1 P, o104_1 P, o105_1 P, o106_1 P, o107_1 P, o108_1 P, o109_1 P, o110_1 P, o111_1 P, o112_1 P, o113_1 P, o114_1 P, o115_1 P, o116_1 P, o117_1 P, o118_1 P, o119_1 P, o120_1 P, o121_1 P, o122_1 P, o123_1 P, o124_1 P, o125_1 P, o126_1 P, o127_2 P, o128_1 P, o129_1 P, o130_1 P, o131_1 P, o132_2 P, o133_2 P, o134_2 P, o135_2 P, o136_2 P, o137_2 P, o138_2 P, o139_2 P, o140_2 P, o141_2 P, o142_2 P, o143_2 P, o144_2 P, o145_2 P, o146_2 P, o147_2 P, o148_2 P, o149_2 P, o150_2 P, o151_2 P, o152_2 P, o153_2 P, o154_2 P, o155_4 P, o156_2 P, o157_2 P, o158_2 P, o159_2 P, o160_2 P, o161_2 P, o162_2 P, o163_2 P, o164_2 P, o165_2 P, o166_2 P, o167_2 P, o168_2 P, o169_2 P, o170_2 P, o171_2 P, o172_2 P, o173_2 P, o174_2 P, o175_2 P, o176_2 P, o177_2 P, o178_2 P, o179_2 P, o180_2 P, o181_2 P, o182_2 P, o183_2 P, o184_2 P, o185_2 P, o186_2 P, o187_2 P, o188_2 P, o189_2 P, o190_2 P, o191_2 P, o192_2 P, o193_2 P, o194_2 P, o195_6 P, o196_2 P, o197_2 P, o198_3 P, o199_3 P, o200_3 P, o201_3 P, o202_3 P, o203_3 P, o204_3 P, o205_3 P, o206_3 P, o207_3 P, o208_3 P, o209_3 P, o210_3 P, o211_3 P, o212_3 P, o213_3 P, o214_3 P, o215_3 P, o216_3 P, o217_3 P, o218_3 P, o219_3 P, o220_3 P, o221_3 P, o222_3 P, o223_3 P, o224_3 P, o225_3 P, o226_3 P, o227_3 P, o228_3 P, o229_3 P, o230_3 P, o231_3 P, o232_3 P, o233_3 P, o234_3 P, o235_3 P, o236_3 P, o237_3 P, o238_3 P, o239_3 P, o240_3 P, o241_3 P, o242_3 P, o243_3 P, o244_3 P, o245_3 P, o246_3 P, o247_3 P, o248_3 P, o249_3 P, o250_3 P, o251_3 P, o252_3 P, o253_3 P, o254_3 P, o255_3 P, o256_3 P, o257_3 P, o258_3 P, o259_3 P, o260_3 P, o261_3 P, o262_3 P, o263_3 P, o264_3 P, o265_3 P, o266_3 P, o267_3 P, o268_3 P, o269_3 P, o270_3 P, o271_3 P, o272_3 P, o273_3 P, o274_3 P, o275_3 P, o276_3 P, o277_3 P, o278_3 P, o279_3 P, o280_4 P, o281_4 P, o282_4 P, o283_4 P, o284_4 P, o285_4 P, o286_4 P, o287_4 P, o288_4 P, o289_4 P, o290_4 P, o291_4 P, o292_4 P, o293_4 P, o294_4 P, o295_4 P, o296_4 P, o297_4 P, o298_4 P, o299_4 P, o300_4 P, o301_4 P, o302_4 P, o303_4 P, o304_4 P, o305_4 P, o306_4 P, o307_4 P, o308_4 P, o309_4 P, o310_4 P, o311_4 P, o312_4 P, o313_4 P, o314_4 P, o315_4 P, o316_4 P, o317_4 P, o318_4 P, o319_4 P, o320_4 P, o321_4 P, o322_4 P, o323_4 P, o324_4 P, o325_4 P, o326_4 P, o327_4 P, o328_4 P, o329_4 P, o330_4 P, o331_4 P, o332_4 P, o333_4 P, o334_4 P, o335_4 P, o336_4 P, o337_4 P, o338_4 P, o339_4 P, o340_4 P, o341_4 P, o342_4 P, o343_4 P, o344_4 P, o345_4 P, o346_4 P, o347_4 P, o348_4 P, o349_4 P, o350_4 P, o351_4 P, o352_4 P, o353_4 P, o354_4 P, o355_4 P, o356_4 P, o357_4 P, o358_4 P, o359_4 P, o360_4 P, o361_4 P, o362_4 P, o363_4 P, o364_4 P, o365_4 P, o366_4 P, o367_4 P, o368_4 P, o369_5 P, o370_5 P, o371_5 P, o372_5 P, o373_5 P, o374_5 P, o375_5 P, o376_5 P, o377_5 P, o378_5 P, o379_5 P, o380_5 P, o381_5 P, o382_5 P, o383_5 P, o384_5 P, o385_5 P, o386_5 P, o387_5 P, o388_5 P, o389_5 P, o390_5 P, o391_5 P, o392_5 P, o393_5 P, o394_5 P, o395_5 P, o396_5 P, o397_5 P, o398_5 P, o399_5 P, o400_5 P, o401_5 P, o402_5 P, o403_5 P, o404_5 P, o405_5 P, o406_5 P, o407_5 P, o408_5 P, o409_5 P, o410_5 P, o411_5 P, o412_5 P, o413_5 P, o414_5 P, o415_5 P, o416_5 P, o417_5 P, o418_5 P, o419_5 P, o420_5 P, o421_5 P, o422_5 P, o423_5 P, o424_5 P, o425_5 P, o426_5 P, o427_5 P, o428_5 P, o429_5 P, o430_5 P, o431_5 P, o432_5 P, o433_5 P, o434_5 P, o435_5 P, o436_5 P, o437_6 P, o438_6 P, o439_6 P, o440_6 P, o441_6 P, o442_6 P, o443_6 P, o444_6 P, o445_6 P, o446_6 P, o447_6 P, o448_6 P, o449_6 P, o450_6 P, o451_6 P, o452_6 P, o453_6 P, o454_6 P, o455_6 P, o456_6 P, o457_6 P, o458_6 P, o459_6 P, o460_6 P, o461_6 P, o462_6 P, o463_6 P, o464_6 P, o465_6 P, o466_6 P, o467_6 P, o468_6 P, o469_6 P, o470_6 P, o471_6 P, o472_6 P, o473_6 P, o474_6 P, o475_6 P, o476_6 P, o477_6 P, o478_6 P, o479_6 P, o480_6 P, o481_6 P, o482_6 P, o483_6 P, o484_6 P, o485_6 P, o486_6 P, o487_6 P, o488_6 P, o489_6 P, o490_6 P, o491_6 P, o492_6 P, o493_6 P, o494_6 P, o495_6 P, o496_6 P, o497_6 P, o498_6 P, o499_6 P, o500_6 P, o501_6 P, o502_6 P, o503_6 P, o504_6 P, o505_6 P, o506_6 P, o507_6 P, o508_6 P, o509_6 P, o510_6 P, o511_6 P, o512_6 P, o513_6 P, o514_6 P, o515_6 P, o516_6 P, o517_6 P, o518_6 P, o519_6 P, o520_6 P, o521_6 P, o522_6 P, o523_6 P, o524_6 P, o525_6 P, o526_6 P, o527_6 P, o528_6 P, o529_6 P, o530_6 P, o531_6 P, o532_6 P, o533_6 P, o534_6 P, o535_6 P, o536_6 P, o537_6 P, o538_6 P, o539_6 P, o540_6 P, o541_6 P, o542_6 P, o543_6 P, o544_6 P, o545_6 P, o546_6 P, o547_6 P, o548_6 P, o549_6 P, o550_6 P, o551_6 P, o552_6 P, o553_6 P]⟩, (PySem.Life.mk [] [] [] 0 [] [] false #[] [] 0 false false false 0 [2000, 10, 10] false 0 true [] [] 0 false)⟩
noncomputable def Sf (w : World) (os : OsState) : Shared := ⟨Hf w.params, ⟨[]⟩, (PySem.Drawn.mk 0 0 0 0), 856, os⟩
theorem pre_ (w : World) (os : OsState) : topGo treeTable PySem.W.Fast.tw12559301932579607790 w 11 ((some (.ref 6))) 12 ⟨boot_heap w.params, ⟨[]⟩, boot_drawn, boot_toks, os⟩ (topStub PySem.W.Fast.tw12559301932579607790) = some (Sa w os, ⟨denote treeTable cT, cT, ⟨0, 0, 0, 0⟩, [topFrame qP]⟩) := by (try rw [PySem.W.Fast.te15667345088766844465]); (try rw [PySem.W.Fast.te14082659384304107361]); (try rw [PySem.W.Fast.te14374325043358763698]); (try rw [PySem.W.Fast.te10110043849684766642]); (try rw [PySem.W.Fast.te14364793385576792824]); (try rw [PySem.W.Fast.te11892475500146522536]); (try rw [PySem.W.Fast.te4187177175401517315]); (try rw [PySem.W.Fast.te5923862056798008813]); (try rw [PySem.W.Fast.te8920871248978507458]); kernel_rfl
theorem block_ (w : World) (os : OsState) : segRun treeTable PySem.W.Fast.tw12559301932579607790 w 11 ((some (.ref 6))) 1 1 (Sa w os) (blockOf (behindTheImports PySem.W.Fast.tw12559301932579607790) envT cT ⟨0, 0, 0, 0⟩ [topFrame qP]) = some (.next, (Sb w os).abs, cT, ⟨0, 0, 0, 0⟩) := by (try rw [PySem.W.Fast.te15667345088766844465]); (try rw [PySem.W.Fast.te14082659384304107361]); (try rw [PySem.W.Fast.te14374325043358763698]); (try rw [PySem.W.Fast.te10110043849684766642]); (try rw [PySem.W.Fast.te14364793385576792824]); (try rw [PySem.W.Fast.te11892475500146522536]); (try rw [PySem.W.Fast.te4187177175401517315]); (try rw [PySem.W.Fast.te5923862056798008813]); (try rw [PySem.W.Fast.te8920871248978507458]); kernel_rfl
noncomputable def sts0 : List Stmt := [topT 0, topT 1, topT 2, topT 3, topT 4]
theorem pc0 (w : World) (os : OsState) : segRunT treeTable PySem.W.Fast.tw12559301932579607790 w 11 ((some (.ref 6))) 1 651 (Sb w os) (piecesOf sts0 envT cT ⟨0, 0, 0, 0⟩ [topFrame qP]) = some (.next, S0 w os, cT, ⟨9, 0, 10, 8⟩) := by (try rw [PySem.W.Fast.te15667345088766844465]); (try rw [PySem.W.Fast.te14082659384304107361]); (try rw [PySem.W.Fast.te14374325043358763698]); (try rw [PySem.W.Fast.te10110043849684766642]); (try rw [PySem.W.Fast.te14364793385576792824]); (try rw [PySem.W.Fast.te11892475500146522536]); (try rw [PySem.W.Fast.te4187177175401517315]); (try rw [PySem.W.Fast.te5923862056798008813]); (try rw [PySem.W.Fast.te8920871248978507458]); kernel_rfl
noncomputable def sts1 : List Stmt := [topT 5, topT 6, topT 7, topT 8, topT 9, topT 10, topT 11, topT 12, topT 13, topT 14, topT 15, topT 16, topT 17, topT 18]
theorem pc1 (w : World) (os : OsState) : segRunT treeTable PySem.W.Fast.tw12559301932579607790 w 11 ((some (.ref 6))) 1 656 (S0 w os) (piecesOf sts1 envT cT ⟨9, 0, 10, 8⟩ [topFrame qP]) = some (.next, S1 w os, cT, ⟨62, 0, 63, 8⟩) := by (try rw [PySem.W.Fast.te15667345088766844465]); (try rw [PySem.W.Fast.te14082659384304107361]); (try rw [PySem.W.Fast.te14374325043358763698]); (try rw [PySem.W.Fast.te10110043849684766642]); (try rw [PySem.W.Fast.te14364793385576792824]); (try rw [PySem.W.Fast.te11892475500146522536]); (try rw [PySem.W.Fast.te4187177175401517315]); (try rw [PySem.W.Fast.te5923862056798008813]); (try rw [PySem.W.Fast.te8920871248978507458]); kernel_rfl
noncomputable def sts2 : List Stmt := [topT 19, topT 20]
theorem pc2 (w : World) (os : OsState) : segRunT treeTable PySem.W.Fast.tw12559301932579607790 w 11 ((some (.ref 6))) 1 613 (S1 w os) (piecesOf sts2 envT cT ⟨62, 0, 63, 8⟩ [topFrame qP]) = some (.next, S2 w os, cT, ⟨71, 0, 83, 16⟩) := by (try rw [PySem.W.Fast.te15667345088766844465]); (try rw [PySem.W.Fast.te14082659384304107361]); (try rw [PySem.W.Fast.te14374325043358763698]); (try rw [PySem.W.Fast.te10110043849684766642]); (try rw [PySem.W.Fast.te14364793385576792824]); (try rw [PySem.W.Fast.te11892475500146522536]); (try rw [PySem.W.Fast.te4187177175401517315]); (try rw [PySem.W.Fast.te5923862056798008813]); (try rw [PySem.W.Fast.te8920871248978507458]); kernel_rfl
noncomputable def sts3 : List Stmt := [topT 21]
theorem pc3 (w : World) (os : OsState) : segRunT treeTable PySem.W.Fast.tw12559301932579607790 w 11 ((some (.ref 6))) 1 549 (S2 w os) (piecesOf sts3 envT cT ⟨71, 0, 83, 16⟩ [topFrame qP]) = some (.next, S3 w os, cT, ⟨84, 0, 126, 28⟩) := by (try rw [PySem.W.Fast.te15667345088766844465]); (try rw [PySem.W.Fast.te14082659384304107361]); (try rw [PySem.W.Fast.te14374325043358763698]); (try rw [PySem.W.Fast.te10110043849684766642]); (try rw [PySem.W.Fast.te14364793385576792824]); (try rw [PySem.W.Fast.te11892475500146522536]); (try rw [PySem.W.Fast.te4187177175401517315]); (try rw [PySem.W.Fast.te5923862056798008813]); (try rw [PySem.W.Fast.te8920871248978507458]); kernel_rfl
noncomputable def sts4 : List Stmt := [topT 22]
theorem pc4 (w : World) (os : OsState) : segRunT treeTable PySem.W.Fast.tw12559301932579607790 w 11 ((some (.ref 6))) 1 580 (S3 w os) (piecesOf sts4 envT cT ⟨84, 0, 126, 28⟩ [topFrame qP]) = some (.next, S4 w os, cT, ⟨127, 0, 165, 21⟩) := by (try rw [PySem.W.Fast.te15667345088766844465]); (try rw [PySem.W.Fast.te14082659384304107361]); (try rw [PySem.W.Fast.te14374325043358763698]); (try rw [PySem.W.Fast.te10110043849684766642]); (try rw [PySem.W.Fast.te14364793385576792824]); (try rw [PySem.W.Fast.te11892475500146522536]); (try rw [PySem.W.Fast.te4187177175401517315]); (try rw [PySem.W.Fast.te5923862056798008813]); (try rw [PySem.W.Fast.te8920871248978507458]); kernel_rfl
noncomputable def sts5 : List Stmt := [topT 23]
theorem pc5 (w : World) (os : OsState) : segRunT treeTable PySem.W.Fast.tw12559301932579607790 w 11 ((some (.ref 6))) 1 482 (S4 w os) (piecesOf sts5 envT cT ⟨127, 0, 165, 21⟩ [topFrame qP]) = some (.next, S5 w os, cT, ⟨166, 0, 199, 31⟩) := by (try rw [PySem.W.Fast.te15667345088766844465]); (try rw [PySem.W.Fast.te14082659384304107361]); (try rw [PySem.W.Fast.te14374325043358763698]); (try rw [PySem.W.Fast.te10110043849684766642]); (try rw [PySem.W.Fast.te14364793385576792824]); (try rw [PySem.W.Fast.te11892475500146522536]); (try rw [PySem.W.Fast.te4187177175401517315]); (try rw [PySem.W.Fast.te5923862056798008813]); (try rw [PySem.W.Fast.te8920871248978507458]); kernel_rfl
noncomputable def sts6 : List Stmt := [topT 24, topT 25, topT 26, topT 27, topT 28, topT 29, topT 30, topT 31, topT 32]
theorem pc6 (w : World) (os : OsState) : segRunT treeTable PySem.W.Fast.tw12559301932579607790 w 11 ((some (.ref 6))) 1 715 (S5 w os) (piecesOf sts6 envT cT ⟨166, 0, 199, 31⟩ [topFrame qP]) = some (.next, S6 w os, cT, ⟨270, 0, 280, 15⟩) := by (try rw [PySem.W.Fast.te15667345088766844465]); (try rw [PySem.W.Fast.te14082659384304107361]); (try rw [PySem.W.Fast.te14374325043358763698]); (try rw [PySem.W.Fast.te10110043849684766642]); (try rw [PySem.W.Fast.te14364793385576792824]); (try rw [PySem.W.Fast.te11892475500146522536]); (try rw [PySem.W.Fast.te4187177175401517315]); (try rw [PySem.W.Fast.te5923862056798008813]); (try rw [PySem.W.Fast.te8920871248978507458]); kernel_rfl
theorem fin_ (w : World) (os : OsState) : topRun treeTable PySem.W.Fast.tw12559301932579607790 w 11 ((some (.ref 6))) 2 (S6 w os).abs ⟨doneF .next, cT, ⟨270, 0, 280, 15⟩, [topFrame qP]⟩ = some (Sf w os) := by (try rw [PySem.W.Fast.te15667345088766844465]); (try rw [PySem.W.Fast.te14082659384304107361]); (try rw [PySem.W.Fast.te14374325043358763698]); (try rw [PySem.W.Fast.te10110043849684766642]); (try rw [PySem.W.Fast.te14364793385576792824]); (try rw [PySem.W.Fast.te11892475500146522536]); (try rw [PySem.W.Fast.te4187177175401517315]); (try rw [PySem.W.Fast.te5923862056798008813]); (try rw [PySem.W.Fast.te8920871248978507458]); kernel_rfl
theorem body_eq : behindTheImports PySem.W.Fast.tw12559301932579607790 = (sts0 ++ (sts1 ++ (sts2 ++ (sts3 ++ (sts4 ++ (sts5 ++ (sts6 ++ []))))))) := by kernel_rfl
theorem run_ (w : World) (os : OsState) : topRun treeTable PySem.W.Fast.tw12559301932579607790 w 11 ((some (.ref 6))) (12 + (1 + (651 + (656 + (613 + (549 + (580 + (482 + (715 + 2))))))))) ⟨boot_heap w.params, ⟨[]⟩, boot_drawn, boot_toks, os⟩ (topStub PySem.W.Fast.tw12559301932579607790) = some (Sf w os) := by
  have h := (piece_app (segRun_of (pc0 w os)) (piece_app (segRun_of (pc1 w os)) (piece_app (segRun_of (pc2 w os)) (piece_app (segRun_of (pc3 w os)) (piece_app (segRun_of (pc4 w os)) (piece_app (segRun_of (pc5 w os)) (piece_app (segRun_of (pc6 w os)) (piece_nil (fin_ w os)))))))))
  rw [← body_eq] at h
  exact go_top (pre_ w os) (piece_block (block_ w os) h)
noncomputable def K (P : Params) : Frag := (nat_lit 2, boot_o_2 P) :: (nat_lit 3, o3_6 P) :: (nat_lit 15, o15_0 P) :: (nat_lit 17, o17_0 P) :: (nat_lit 18, o18_0 P) :: (nat_lit 20, o20_0 P) :: (nat_lit 21, o21_0 P) :: (nat_lit 22, o22_0 P) :: (nat_lit 29, o29_0 P) :: (nat_lit 30, o30_0 P) :: (nat_lit 31, o31_1 P) :: (nat_lit 32, o32_0 P) :: (nat_lit 35, o35_0 P) :: (nat_lit 42, o42_0 P) :: (nat_lit 43, o43_0 P) :: (nat_lit 44, o44_0 P) :: (nat_lit 47, o47_0 P) :: (nat_lit 54, o54_0 P) :: (nat_lit 55, o55_0 P) :: (nat_lit 56, o56_0 P) :: (nat_lit 59, o59_1 P) :: (nat_lit 66, o66_1 P) :: (nat_lit 67, o67_1 P) :: (nat_lit 68, o68_1 P) :: (nat_lit 71, o71_1 P) :: (nat_lit 73, o73_1 P) :: (nat_lit 74, o74_1 P) :: (nat_lit 76, o76_1 P) :: (nat_lit 77, o77_1 P) :: (nat_lit 78, o78_1 P) :: (nat_lit 80, o80_1 P) :: (nat_lit 81, o81_1 P) :: (nat_lit 83, o83_1 P) :: (nat_lit 84, o84_1 P) :: (nat_lit 85, o85_1 P) :: (nat_lit 87, o87_1 P) :: (nat_lit 88, o88_1 P) :: (nat_lit 90, o90_1 P) :: (nat_lit 91, o91_1 P) :: (nat_lit 92, o92_1 P) :: (nat_lit 94, o94_1 P) :: (nat_lit 95, o95_1 P) :: (nat_lit 97, o97_1 P) :: (nat_lit 98, o98_1 P) :: (nat_lit 99, o99_1 P) :: (nat_lit 102, o102_1 P) :: (nat_lit 103, o103_1 P) :: (nat_lit 104, o104_1 P) :: (nat_lit 106, o106_1 P) :: (nat_lit 107, o107_1 P) :: (nat_lit 109, o109_1 P) :: (nat_lit 110, o110_1 P) :: (nat_lit 111, o111_1 P) :: (nat_lit 113, o113_1 P) :: (nat_lit 114, o114_1 P) :: (nat_lit 116, o116_1 P) :: (nat_lit 117, o117_1 P) :: (nat_lit 125, o125_1 P) :: (nat_lit 126, o126_1 P) :: (nat_lit 127, o127_2 P) :: (nat_lit 128, o128_1 P) :: (nat_lit 129, o129_1 P) :: (nat_lit 132, o132_2 P) :: (nat_lit 139, o139_2 P) :: (nat_lit 141, o141_2 P) :: (nat_lit 142, o142_2 P) :: (nat_lit 144, o144_2 P) :: (nat_lit 145, o145_2 P) :: (nat_lit 146, o146_2 P) :: (nat_lit 148, o148_2 P) :: (nat_lit 149, o149_2 P) :: (nat_lit 151, o151_2 P) :: (nat_lit 152, o152_2 P) :: (nat_lit 153, o153_2 P) :: (nat_lit 154, o154_2 P) :: (nat_lit 155, o155_4 P) :: (nat_lit 158, o158_2 P) :: (nat_lit 165, o165_2 P) :: (nat_lit 167, o167_2 P) :: (nat_lit 168, o168_2 P) :: (nat_lit 170, o170_2 P) :: (nat_lit 171, o171_2 P) :: (nat_lit 172, o172_2 P) :: (nat_lit 174, o174_2 P) :: (nat_lit 175, o175_2 P) :: (nat_lit 177, o177_2 P) :: (nat_lit 178, o178_2 P) :: (nat_lit 179, o179_2 P) :: (nat_lit 181, o181_2 P) :: (nat_lit 182, o182_2 P) :: (nat_lit 184, o184_2 P) :: (nat_lit 185, o185_2 P) :: (nat_lit 186, o186_2 P) :: (nat_lit 188, o188_2 P) :: (nat_lit 189, o189_2 P) :: (nat_lit 191, o191_2 P) :: (nat_lit 192, o192_2 P) :: (nat_lit 193, o193_2 P) :: (nat_lit 194, o194_2 P) :: (nat_lit 195, o195_6 P) :: (nat_lit 198, o198_3 P) :: (nat_lit 205, o205_3 P) :: (nat_lit 207, o207_3 P) :: (nat_lit 208, o208_3 P) :: (nat_lit 210, o210_3 P) :: (nat_lit 211, o211_3 P) :: (nat_lit 212, o212_3 P) :: (nat_lit 214, o214_3 P) :: (nat_lit 215, o215_3 P) :: (nat_lit 217, o217_3 P) :: (nat_lit 218, o218_3 P) :: (nat_lit 219, o219_3 P) :: (nat_lit 221, o221_3 P) :: (nat_lit 222, o222_3 P) :: (nat_lit 224, o224_3 P) :: (nat_lit 225, o225_3 P) :: (nat_lit 226, o226_3 P) :: (nat_lit 228, o228_3 P) :: (nat_lit 229, o229_3 P) :: (nat_lit 231, o231_3 P) :: (nat_lit 232, o232_3 P) :: (nat_lit 233, o233_3 P) :: (nat_lit 235, o235_3 P) :: (nat_lit 236, o236_3 P) :: (nat_lit 238, o238_3 P) :: (nat_lit 239, o239_3 P) :: (nat_lit 240, o240_3 P) :: (nat_lit 242, o242_3 P) :: (nat_lit 243, o243_3 P) :: (nat_lit 245, o245_3 P) :: (nat_lit 246, o246_3 P) :: (nat_lit 247, o247_3 P) :: (nat_lit 249, o249_3 P) :: (nat_lit 250, o250_3 P) :: (nat_lit 252, o252_3 P) :: (nat_lit 253, o253_3 P) :: (nat_lit 254, o254_3 P) :: (nat_lit 256, o256_3 P) :: (nat_lit 257, o257_3 P) :: (nat_lit 259, o259_3 P) :: (nat_lit 260, o260_3 P) :: (nat_lit 261, o261_3 P) :: (nat_lit 263, o263_3 P) :: (nat_lit 264, o264_3 P) :: (nat_lit 266, o266_3 P) :: (nat_lit 267, o267_3 P) :: (nat_lit 268, o268_3 P) :: (nat_lit 270, o270_3 P) :: (nat_lit 271, o271_3 P) :: (nat_lit 273, o273_3 P) :: (nat_lit 274, o274_3 P) :: (nat_lit 275, o275_3 P) :: (nat_lit 276, o276_3 P) :: (nat_lit 277, o277_3 P) :: (nat_lit 280, o280_4 P) :: (nat_lit 287, o287_4 P) :: (nat_lit 289, o289_4 P) :: (nat_lit 290, o290_4 P) :: (nat_lit 292, o292_4 P) :: (nat_lit 293, o293_4 P) :: (nat_lit 294, o294_4 P) :: (nat_lit 296, o296_4 P) :: (nat_lit 297, o297_4 P) :: (nat_lit 299, o299_4 P) :: (nat_lit 300, o300_4 P) :: (nat_lit 301, o301_4 P) :: (nat_lit 303, o303_4 P) :: (nat_lit 304, o304_4 P) :: (nat_lit 306, o306_4 P) :: (nat_lit 307, o307_4 P) :: (nat_lit 308, o308_4 P) :: (nat_lit 310, o310_4 P) :: (nat_lit 311, o311_4 P) :: (nat_lit 313, o313_4 P) :: (nat_lit 314, o314_4 P) :: (nat_lit 315, o315_4 P) :: (nat_lit 317, o317_4 P) :: (nat_lit 318, o318_4 P) :: (nat_lit 320, o320_4 P) :: (nat_lit 321, o321_4 P) :: (nat_lit 322, o322_4 P) :: (nat_lit 324, o324_4 P) :: (nat_lit 325, o325_4 P) :: (nat_lit 327, o327_4 P) :: (nat_lit 328, o328_4 P) :: (nat_lit 329, o329_4 P) :: (nat_lit 331, o331_4 P) :: (nat_lit 332, o332_4 P) :: (nat_lit 334, o334_4 P) :: (nat_lit 335, o335_4 P) :: (nat_lit 336, o336_4 P) :: (nat_lit 338, o338_4 P) :: (nat_lit 339, o339_4 P) :: (nat_lit 341, o341_4 P) :: (nat_lit 342, o342_4 P) :: (nat_lit 343, o343_4 P) :: (nat_lit 345, o345_4 P) :: (nat_lit 346, o346_4 P) :: (nat_lit 348, o348_4 P) :: (nat_lit 349, o349_4 P) :: (nat_lit 350, o350_4 P) :: (nat_lit 352, o352_4 P) :: (nat_lit 353, o353_4 P) :: (nat_lit 355, o355_4 P) :: (nat_lit 356, o356_4 P) :: (nat_lit 357, o357_4 P) :: (nat_lit 359, o359_4 P) :: (nat_lit 360, o360_4 P) :: (nat_lit 362, o362_4 P) :: (nat_lit 363, o363_4 P) :: (nat_lit 364, o364_4 P) :: (nat_lit 365, o365_4 P) :: (nat_lit 366, o366_4 P) :: (nat_lit 369, o369_5 P) :: (nat_lit 376, o376_5 P) :: (nat_lit 378, o378_5 P) :: (nat_lit 379, o379_5 P) :: (nat_lit 381, o381_5 P) :: (nat_lit 382, o382_5 P) :: (nat_lit 383, o383_5 P) :: (nat_lit 385, o385_5 P) :: (nat_lit 386, o386_5 P) :: (nat_lit 388, o388_5 P) :: (nat_lit 389, o389_5 P) :: (nat_lit 390, o390_5 P) :: (nat_lit 392, o392_5 P) :: (nat_lit 393, o393_5 P) :: (nat_lit 395, o395_5 P) :: (nat_lit 396, o396_5 P) :: (nat_lit 397, o397_5 P) :: (nat_lit 399, o399_5 P) :: (nat_lit 400, o400_5 P) :: (nat_lit 402, o402_5 P) :: (nat_lit 403, o403_5 P) :: (nat_lit 404, o404_5 P) :: (nat_lit 406, o406_5 P) :: (nat_lit 407, o407_5 P) :: (nat_lit 409, o409_5 P) :: (nat_lit 410, o410_5 P) :: (nat_lit 411, o411_5 P) :: (nat_lit 413, o413_5 P) :: (nat_lit 414, o414_5 P) :: (nat_lit 416, o416_5 P) :: (nat_lit 417, o417_5 P) :: (nat_lit 418, o418_5 P) :: (nat_lit 420, o420_5 P) :: (nat_lit 421, o421_5 P) :: (nat_lit 423, o423_5 P) :: (nat_lit 424, o424_5 P) :: (nat_lit 425, o425_5 P) :: (nat_lit 427, o427_5 P) :: (nat_lit 428, o428_5 P) :: (nat_lit 430, o430_5 P) :: (nat_lit 431, o431_5 P) :: (nat_lit 432, o432_5 P) :: (nat_lit 433, o433_5 P) :: (nat_lit 434, o434_5 P) :: (nat_lit 437, o437_6 P) :: (nat_lit 444, o444_6 P) :: (nat_lit 446, o446_6 P) :: (nat_lit 447, o447_6 P) :: (nat_lit 449, o449_6 P) :: (nat_lit 450, o450_6 P) :: (nat_lit 451, o451_6 P) :: (nat_lit 453, o453_6 P) :: (nat_lit 454, o454_6 P) :: (nat_lit 456, o456_6 P) :: (nat_lit 457, o457_6 P) :: (nat_lit 458, o458_6 P) :: (nat_lit 460, o460_6 P) :: (nat_lit 461, o461_6 P) :: (nat_lit 463, o463_6 P) :: (nat_lit 464, o464_6 P) :: (nat_lit 465, o465_6 P) :: (nat_lit 467, o467_6 P) :: (nat_lit 468, o468_6 P) :: (nat_lit 470, o470_6 P) :: (nat_lit 471, o471_6 P) :: (nat_lit 472, o472_6 P) :: (nat_lit 474, o474_6 P) :: (nat_lit 475, o475_6 P) :: (nat_lit 477, o477_6 P) :: (nat_lit 478, o478_6 P) :: (nat_lit 479, o479_6 P) :: (nat_lit 481, o481_6 P) :: (nat_lit 482, o482_6 P) :: (nat_lit 484, o484_6 P) :: (nat_lit 485, o485_6 P) :: (nat_lit 486, o486_6 P) :: (nat_lit 488, o488_6 P) :: (nat_lit 489, o489_6 P) :: (nat_lit 491, o491_6 P) :: (nat_lit 492, o492_6 P) :: (nat_lit 493, o493_6 P) :: (nat_lit 495, o495_6 P) :: (nat_lit 496, o496_6 P) :: (nat_lit 498, o498_6 P) :: (nat_lit 499, o499_6 P) :: (nat_lit 500, o500_6 P) :: (nat_lit 501, o501_6 P) :: (nat_lit 502, o502_6 P) :: (nat_lit 505, o505_6 P) :: (nat_lit 507, o507_6 P) :: (nat_lit 508, o508_6 P) :: (nat_lit 510, o510_6 P) :: (nat_lit 511, o511_6 P) :: (nat_lit 512, o512_6 P) :: (nat_lit 514, o514_6 P) :: (nat_lit 515, o515_6 P) :: (nat_lit 517, o517_6 P) :: (nat_lit 518, o518_6 P) :: (nat_lit 519, o519_6 P) :: (nat_lit 521, o521_6 P) :: (nat_lit 522, o522_6 P) :: (nat_lit 524, o524_6 P) :: (nat_lit 525, o525_6 P) :: (nat_lit 526, o526_6 P) :: (nat_lit 528, o528_6 P) :: (nat_lit 529, o529_6 P) :: (nat_lit 531, o531_6 P) :: (nat_lit 532, o532_6 P) :: (nat_lit 533, o533_6 P) :: (nat_lit 535, o535_6 P) :: (nat_lit 536, o536_6 P) :: (nat_lit 538, o538_6 P) :: (nat_lit 539, o539_6 P) :: (nat_lit 540, o540_6 P) :: (nat_lit 542, o542_6 P) :: (nat_lit 543, o543_6 P) :: (nat_lit 545, o545_6 P) :: (nat_lit 546, o546_6 P) :: (nat_lit 547, o547_6 P) :: (nat_lit 549, o549_6 P) :: (nat_lit 550, o550_6 P) :: (nat_lit 552, o552_6 P) :: (nat_lit 553, o553_6 P) :: []
noncomputable def KA : List Addr := [2, 3, 15, 17, 18, 20, 21, 22, 29, 30, 31, 32, 35, 42, 43, 44, 47, 54, 55, 56, 59, 66, 67, 68, 71, 73, 74, 76, 77, 78, 80, 81, 83, 84, 85, 87, 88, 90, 91, 92, 94, 95, 97, 98, 99, 102, 103, 104, 106, 107, 109, 110, 111, 113, 114, 116, 117, 125, 126, 127, 128, 129, 132, 139, 141, 142, 144, 145, 146, 148, 149, 151, 152, 153, 154, 155, 158, 165, 167, 168, 170, 171, 172, 174, 175, 177, 178, 179, 181, 182, 184, 185, 186, 188, 189, 191, 192, 193, 194, 195, 198, 205, 207, 208, 210, 211, 212, 214, 215, 217, 218, 219, 221, 222, 224, 225, 226, 228, 229, 231, 232, 233, 235, 236, 238, 239, 240, 242, 243, 245, 246, 247, 249, 250, 252, 253, 254, 256, 257, 259, 260, 261, 263, 264, 266, 267, 268, 270, 271, 273, 274, 275, 276, 277, 280, 287, 289, 290, 292, 293, 294, 296, 297, 299, 300, 301, 303, 304, 306, 307, 308, 310, 311, 313, 314, 315, 317, 318, 320, 321, 322, 324, 325, 327, 328, 329, 331, 332, 334, 335, 336, 338, 339, 341, 342, 343, 345, 346, 348, 349, 350, 352, 353, 355, 356, 357, 359, 360, 362, 363, 364, 365, 366, 369, 376, 378, 379, 381, 382, 383, 385, 386, 388, 389, 390, 392, 393, 395, 396, 397, 399, 400, 402, 403, 404, 406, 407, 409, 410, 411, 413, 414, 416, 417, 418, 420, 421, 423, 424, 425, 427, 428, 430, 431, 432, 433, 434, 437, 444, 446, 447, 449, 450, 451, 453, 454, 456, 457, 458, 460, 461, 463, 464, 465, 467, 468, 470, 471, 472, 474, 475, 477, 478, 479, 481, 482, 484, 485, 486, 488, 489, 491, 492, 493, 495, 496, 498, 499, 500, 501, 502, 505, 507, 508, 510, 511, 512, 514, 515, 517, 518, 519, 521, 522, 524, 525, 526, 528, 529, 531, 532, 533, 535, 536, 538, 539, 540, 542, 543, 545, 546, 547, 549, 550, 552, 553]
theorem KA_eq (P : Params) : KA = (K P).map (·.1) := by kernel_rfl
noncomputable def topO (i : Nat) : Stmt := PySem.Challenge.pw_weighwalk_k05_sums_and_products_go_toget.main.body.getD i (.Pass ⟨0, 0, 0, 0⟩)
theorem top_eq : topT = topO := by unfold topT topO; rw [PySem.W.Fast.te12559301932579607790]
noncomputable def qT : Program := { PySem.W.Fast.tw12559301932579607790 with main := { PySem.W.Fast.tw12559301932579607790.main with body := [topT 0, topT 2, topT 3, topT 4, topT 5, topT 7, topT 8, topT 9, topT 10, topT 12, topT 13, topT 14, topT 15, topT 16, topT 17, topT 18, topT 19, topT 20, topT 21, topT 22, topT 23, topT 24, topT 26, topT 27, topT 28, topT 29, topT 30, topT 31, topT 32] } }
noncomputable def qO : Program := { PySem.Challenge.pw_weighwalk_k05_sums_and_products_go_toget with main := { PySem.Challenge.pw_weighwalk_k05_sums_and_products_go_toget.main with body := [topO 0, topO 2, topO 3, topO 4, topO 5, topO 7, topO 8, topO 9, topO 10, topO 12, topO 13, topO 14, topO 15, topO 16, topO 17, topO 18, topO 19, topO 20, topO 21, topO 22, topO 23, topO 24, topO 26, topO 27, topO 28, topO 29, topO 30, topO 31, topO 32] } }
theorem q_eq : qO = qT := by unfold qO qT; rw [top_eq, PySem.W.Fast.te12559301932579607790]
noncomputable def recs := RowW.records (OpenRow.toRowW (OpenLaw.row PySem.Challenge.rw_weighwalk_k05_sums_and_products_go_toget))
noncomputable abbrev Xt (q : Program) (s : Shared) : Bool := xlAt q [] s && recOk recs s
noncomputable abbrev hook : Hook := kHook K KA KA_eq
theorem size_ (w : World) : ((boot_heap w.params).isNs mainGlobals && (⟨[]⟩ : Array GenState).size == 0, (boot_heap w.params).objs.size, (boot_heap w.params).nsMap mainGlobals "__annotations__") = (true, 11, (some (.ref 6))) := by (try rw [PySem.W.Fast.te15667345088766844465]); (try rw [PySem.W.Fast.te14082659384304107361]); (try rw [PySem.W.Fast.te14374325043358763698]); (try rw [PySem.W.Fast.te10110043849684766642]); (try rw [PySem.W.Fast.te14364793385576792824]); (try rw [PySem.W.Fast.te11892475500146522536]); (try rw [PySem.W.Fast.te4187177175401517315]); (try rw [PySem.W.Fast.te5923862056798008813]); (try rw [PySem.W.Fast.te8920871248978507458]); kernel_rfl
theorem open_ : ∀ w : World, (fencedOpening treeTable PySem.W.Fast.tw12559301932579607790 w 8604).map (fun s => (s.heap, s.gens, s.drawn, s.toks)) = some (boot_heap w.params, ⟨[]⟩, boot_drawn, boot_toks) := boot_open (by kernel_rfl) (by decide) (fun s => by (try rw [PySem.W.Fast.te15667345088766844465]); (try rw [PySem.W.Fast.te14082659384304107361]); (try rw [PySem.W.Fast.te14374325043358763698]); (try rw [PySem.W.Fast.te10110043849684766642]); (try rw [PySem.W.Fast.te14364793385576792824]); (try rw [PySem.W.Fast.te11892475500146522536]); (try rw [PySem.W.Fast.te4187177175401517315]); (try rw [PySem.W.Fast.te5923862056798008813]); (try rw [PySem.W.Fast.te8920871248978507458]); kernel_rfl)
theorem look1 (w : World) (os : OsState) : (staticsOk (importedModules PySem.W.Fast.tw12559301932579607790.main.body) (boot_heap w.params) (Hf w.params) && namesBound PySem.W.Fast.tw12559301932579607790 (Hf w.params) && gensDone (Sf w os) && laidKept (boot_heap w.params) (Hf w.params)) = true := by (try rw [PySem.W.Fast.te15667345088766844465]); (try rw [PySem.W.Fast.te14082659384304107361]); (try rw [PySem.W.Fast.te14374325043358763698]); (try rw [PySem.W.Fast.te10110043849684766642]); (try rw [PySem.W.Fast.te14364793385576792824]); (try rw [PySem.W.Fast.te11892475500146522536]); (try rw [PySem.W.Fast.te4187177175401517315]); (try rw [PySem.W.Fast.te5923862056798008813]); (try rw [PySem.W.Fast.te8920871248978507458]); kernel_rfl
theorem look2 (w : World) (os : OsState) : openSeen qT [] (importedModules PySem.W.Fast.tw12559301932579607790.main.body) (Xt qT) true (Sf w os) = openGood qT [] := by (try rw [PySem.W.Fast.te15667345088766844465]); (try rw [PySem.W.Fast.te14082659384304107361]); (try rw [PySem.W.Fast.te14374325043358763698]); (try rw [PySem.W.Fast.te10110043849684766642]); (try rw [PySem.W.Fast.te14364793385576792824]); (try rw [PySem.W.Fast.te11892475500146522536]); (try rw [PySem.W.Fast.te4187177175401517315]); (try rw [PySem.W.Fast.te5923862056798008813]); (try rw [PySem.W.Fast.te8920871248978507458]); kernel_rfl
theorem look3 (w : World) (os : OsState) : hook.obs (Sf w os) = hook.val w := by kernel_rfl
theorem leftT : LeftO PySem.W.Fast.tw12559301932579607790 qT [] (Xt qT) hook.obs hook.val 8604 := LeftO.of_pieces (H₁ := Hf) open_ size_ run_ (by decide) (fun w => funext fun os => looks_pair (look1 w os) (looks_pair (look2 w os) (look3 w os)))
theorem left : LeftO PySem.Challenge.pw_weighwalk_k05_sums_and_products_go_toget qO [] (Xt qO) hook.obs hook.val 8604 := by have h := leftT; rw [← q_eq, ← PySem.W.Fast.te12559301932579607790] at h; exact h
noncomputable def dO : DefRec := ⟨PySem.Str.ofString "law", L2.defArgs (topO 32), L2.defBody (topO 32), L2.defScope (topO 32), ⟨270, 0, 280, 15⟩⟩
theorem holds_ (said : (OpenLaw.row PySem.Challenge.rw_weighwalk_k05_sums_and_products_go_toget).wellSaid = true) (hw : (OpenLaw.row PySem.Challenge.rw_weighwalk_k05_sums_and_products_go_toget).toRowW.promised) (hc : WalkO qO [] (XL qO []) (Hook.says hook) (OpenLaw.row PySem.Challenge.rw_weighwalk_k05_sums_and_products_go_toget).toRowW dO [] (fun f vs => PySem.call f vs)) : (OpenLaw.row PySem.Challenge.rw_weighwalk_k05_sums_and_products_go_toget).Holds :=
  holds_open (r := (OpenLaw.row PySem.Challenge.rw_weighwalk_k05_sums_and_products_go_toget)) (q := qO) (loose := []) (Xt := Xt qO) (XP := XL qO []) (Yf := hook.obs) (Ya := hook.val) (YP := hook.says) (d := dO) (kwd := []) (N := 8604) left hook.of hook.keeps (fun s e => xl_of s (Bool.and_eq_true_iff.mp e).1) XL.keeps (by kernel_rfl) (by kernel_rfl) (by kernel_rfl) (fun s e => recFacts_of (Bool.and_eq_true_iff.mp e).2) (by kernel_rfl) said (by decide +kernel) ⟨rfl, rfl, rfl, rfl, rfl, by decide +kernel⟩ hw hc
theorem lk__wall (P : Params) : (K P).lookup 21 = some ⟨(.type PySem.W.SL.s7174869446012820540x8), none, .func (fnOf (PySem.Str.ofString "_wall") (PySem.Str.ofString "_wall") (L2.defArgs (topO 0)) (L2.defBody (topO 0)) (L2.defScope (topO 0)) .none .none .none (.str s2 164) none (.ref 20) .none), #[]⟩ := by rw [← top_eq]; kernel_rfl
theorem lk_is_whole (P : Params) : (K P).lookup 77 = some ⟨(.type PySem.W.SL.s7174869446012820540x8), none, .func (fnOf (PySem.Str.ofString "is_whole") (PySem.Str.ofString "is_whole") (L2.defArgs (topO 7)) (L2.defBody (topO 7)) (L2.defScope (topO 7)) .none .none .none (.str s38 262) none (.ref 76) .none), #[]⟩ := by rw [← top_eq]; kernel_rfl
theorem lk_divisor (P : Params) : (K P).lookup 84 = some ⟨(.type PySem.W.SL.s7174869446012820540x8), none, .func (fnOf (PySem.Str.ofString "divisor") (PySem.Str.ofString "divisor") (L2.defArgs (topO 8)) (L2.defBody (topO 8)) (L2.defScope (topO 8)) .none .none .none (.str s38 262) none (.ref 83) .none), #[]⟩ := by rw [← top_eq]; kernel_rfl
theorem lk_fraction (P : Params) : (K P).lookup 91 = some ⟨(.type PySem.W.SL.s7174869446012820540x8), none, .func (fnOf (PySem.Str.ofString "fraction") (PySem.Str.ofString "fraction") (L2.defArgs (topO 9)) (L2.defBody (topO 9)) (L2.defScope (topO 9)) .none .none .none (.str s38 262) none (.ref 90) .none), #[]⟩ := by rw [← top_eq]; kernel_rfl
theorem lk_is_prime (P : Params) : (K P).lookup 98 = some ⟨(.type PySem.W.SL.s7174869446012820540x8), none, .func (fnOf (PySem.Str.ofString "is_prime") (PySem.Str.ofString "is_prime") (L2.defArgs (topO 10)) (L2.defBody (topO 10)) (L2.defScope (topO 10)) .none .none .none (.str s38 262) none (.ref 97) .none), #[]⟩ := by rw [← top_eq]; kernel_rfl
theorem lk_is_written (P : Params) : (K P).lookup 103 = some ⟨(.type PySem.W.SL.s7174869446012820540x8), none, .func (fnOf (PySem.Str.ofString "is_written") (PySem.Str.ofString "is_written") (L2.defArgs (topO 15)) (L2.defBody (topO 15)) (L2.defScope (topO 15)) .none .none .none (.str s23 299) none (.ref 102) .none), #[]⟩ := by rw [← top_eq]; kernel_rfl
theorem lk_read_whole (P : Params) : (K P).lookup 110 = some ⟨(.type PySem.W.SL.s7174869446012820540x8), none, .func (fnOf (PySem.Str.ofString "read_whole") (PySem.Str.ofString "read_whole") (L2.defArgs (topO 16)) (L2.defBody (topO 16)) (L2.defScope (topO 16)) .none .none .none (.str s23 299) none (.ref 109) .none), #[]⟩ := by rw [← top_eq]; kernel_rfl
theorem lk_need_text (P : Params) : (K P).lookup 117 = some ⟨(.type PySem.W.SL.s7174869446012820540x8), none, .func (fnOf (PySem.Str.ofString "need_text") (PySem.Str.ofString "need_text") (L2.defArgs (topO 17)) (L2.defBody (topO 17)) (L2.defScope (topO 17)) .none .none .none (.str s23 299) none (.ref 116) .none), #[]⟩ := by rw [← top_eq]; kernel_rfl
theorem lk_Field_is_field (P : Params) : (K P).lookup 145 = some ⟨(.type PySem.W.SL.s7174869446012820540x8), none, .func (fnOf (PySem.Str.ofString "is_field") (PySem.Str.ofString "Field.is_field") (L2.defArgs (L2.inClass (topO 19) 0)) (L2.defBody (L2.inClass (topO 19) 0)) (L2.defScope (L2.inClass (topO 19) 0)) .none .none .none (.str s23 299) none (.ref 144) .none), #[]⟩ := by rw [← top_eq]; kernel_rfl
theorem lk_Field_picks (P : Params) : (K P).lookup 152 = some ⟨(.type PySem.W.SL.s7174869446012820540x8), none, .func (fnOf (PySem.Str.ofString "picks") (PySem.Str.ofString "Field.picks") (L2.defArgs (L2.inClass (topO 19) 1)) (L2.defBody (L2.inClass (topO 19) 1)) (L2.defScope (L2.inClass (topO 19) 1)) .none .none .none (.str s23 299) none (.ref 151) .none), #[]⟩ := by rw [← top_eq]; kernel_rfl
theorem lk_Picking_is_field (P : Params) : (K P).lookup 171 = some ⟨(.type PySem.W.SL.s7174869446012820540x8), none, .func (fnOf (PySem.Str.ofString "is_field") (PySem.Str.ofString "Picking.is_field") (L2.defArgs (L2.inClass (topO 20) 0)) (L2.defBody (L2.inClass (topO 20) 0)) (L2.defScope (L2.inClass (topO 20) 0)) .none .none .none (.str s23 299) none (.ref 170) .none), #[]⟩ := by rw [← top_eq]; kernel_rfl
theorem lk_Picking_picks (P : Params) : (K P).lookup 178 = some ⟨(.type PySem.W.SL.s7174869446012820540x8), none, .func (fnOf (PySem.Str.ofString "picks") (PySem.Str.ofString "Picking.picks") (L2.defArgs (L2.inClass (topO 20) 1)) (L2.defBody (L2.inClass (topO 20) 1)) (L2.defScope (L2.inClass (topO 20) 1)) .none .none .none (.str s23 299) none (.ref 177) .none), #[]⟩ := by rw [← top_eq]; kernel_rfl
theorem lk_Picking_minus (P : Params) : (K P).lookup 185 = some ⟨(.type PySem.W.SL.s7174869446012820540x8), none, .func (fnOf (PySem.Str.ofString "minus") (PySem.Str.ofString "Picking.minus") (L2.defArgs (L2.inClass (topO 20) 2)) (L2.defBody (L2.inClass (topO 20) 2)) (L2.defScope (L2.inClass (topO 20) 2)) .none .none .none (.str s23 299) none (.ref 184) .none), #[]⟩ := by rw [← top_eq]; kernel_rfl
theorem lk_Picking_inverse (P : Params) : (K P).lookup 192 = some ⟨(.type PySem.W.SL.s7174869446012820540x8), none, .func (fnOf (PySem.Str.ofString "inverse") (PySem.Str.ofString "Picking.inverse") (L2.defArgs (L2.inClass (topO 20) 3)) (L2.defBody (L2.inClass (topO 20) 3)) (L2.defScope (L2.inClass (topO 20) 3)) .none .none .none (.str s23 299) none (.ref 191) .none), #[]⟩ := by rw [← top_eq]; kernel_rfl
theorem lk_Fractions_told (P : Params) : (K P).lookup 211 = some ⟨(.type PySem.W.SL.s7174869446012820540x8), none, .func (fnOf (PySem.Str.ofString "told") (PySem.Str.ofString "Fractions.told") (L2.defArgs (L2.inClass (topO 21) 0)) (L2.defBody (L2.inClass (topO 21) 0)) (L2.defScope (L2.inClass (topO 21) 0)) .none .none .none (.str s23 299) none (.ref 210) .none), #[]⟩ := by rw [← top_eq]; kernel_rfl
theorem lk_Fractions_nought (P : Params) : (K P).lookup 218 = some ⟨(.type PySem.W.SL.s7174869446012820540x8), none, .func (fnOf (PySem.Str.ofString "nought") (PySem.Str.ofString "Fractions.nought") (L2.defArgs (L2.inClass (topO 21) 1)) (L2.defBody (L2.inClass (topO 21) 1)) (L2.defScope (L2.inClass (topO 21) 1)) .none .none .none (.str s23 299) none (.ref 217) .none), #[]⟩ := by rw [← top_eq]; kernel_rfl
theorem lk_Fractions_one (P : Params) : (K P).lookup 225 = some ⟨(.type PySem.W.SL.s7174869446012820540x8), none, .func (fnOf (PySem.Str.ofString "one") (PySem.Str.ofString "Fractions.one") (L2.defArgs (L2.inClass (topO 21) 2)) (L2.defBody (L2.inClass (topO 21) 2)) (L2.defScope (L2.inClass (topO 21) 2)) .none .none .none (.str s23 299) none (.ref 224) .none), #[]⟩ := by rw [← top_eq]; kernel_rfl
theorem lk_Fractions_plus (P : Params) : (K P).lookup 232 = some ⟨(.type PySem.W.SL.s7174869446012820540x8), none, .func (fnOf (PySem.Str.ofString "plus") (PySem.Str.ofString "Fractions.plus") (L2.defArgs (L2.inClass (topO 21) 3)) (L2.defBody (L2.inClass (topO 21) 3)) (L2.defScope (L2.inClass (topO 21) 3)) .none .none .none (.str s23 299) none (.ref 231) .none), #[]⟩ := by rw [← top_eq]; kernel_rfl
theorem lk_Fractions_times (P : Params) : (K P).lookup 239 = some ⟨(.type PySem.W.SL.s7174869446012820540x8), none, .func (fnOf (PySem.Str.ofString "times") (PySem.Str.ofString "Fractions.times") (L2.defArgs (L2.inClass (topO 21) 4)) (L2.defBody (L2.inClass (topO 21) 4)) (L2.defScope (L2.inClass (topO 21) 4)) .none .none .none (.str s23 299) none (.ref 238) .none), #[]⟩ := by rw [← top_eq]; kernel_rfl
theorem lk_Fractions_minus (P : Params) : (K P).lookup 246 = some ⟨(.type PySem.W.SL.s7174869446012820540x8), none, .func (fnOf (PySem.Str.ofString "minus") (PySem.Str.ofString "Fractions.minus") (L2.defArgs (L2.inClass (topO 21) 5)) (L2.defBody (L2.inClass (topO 21) 5)) (L2.defScope (L2.inClass (topO 21) 5)) .none .none .none (.str s23 299) none (.ref 245) .none), #[]⟩ := by rw [← top_eq]; kernel_rfl
theorem lk_Fractions_inverse (P : Params) : (K P).lookup 253 = some ⟨(.type PySem.W.SL.s7174869446012820540x8), none, .func (fnOf (PySem.Str.ofString "inverse") (PySem.Str.ofString "Fractions.inverse") (L2.defArgs (L2.inClass (topO 21) 6)) (L2.defBody (L2.inClass (topO 21) 6)) (L2.defScope (L2.inClass (topO 21) 6)) .none .none .none (.str s23 299) none (.ref 252) .none), #[]⟩ := by rw [← top_eq]; kernel_rfl
theorem lk_Fractions_is_weight (P : Params) : (K P).lookup 260 = some ⟨(.type PySem.W.SL.s7174869446012820540x8), none, .func (fnOf (PySem.Str.ofString "is_weight") (PySem.Str.ofString "Fractions.is_weight") (L2.defArgs (L2.inClass (topO 21) 7)) (L2.defBody (L2.inClass (topO 21) 7)) (L2.defScope (L2.inClass (topO 21) 7)) .none .none .none (.str s23 299) none (.ref 259) .none), #[]⟩ := by rw [← top_eq]; kernel_rfl
theorem lk_Fractions_shown (P : Params) : (K P).lookup 267 = some ⟨(.type PySem.W.SL.s7174869446012820540x8), none, .func (fnOf (PySem.Str.ofString "shown") (PySem.Str.ofString "Fractions.shown") (L2.defArgs (L2.inClass (topO 21) 8)) (L2.defBody (L2.inClass (topO 21) 8)) (L2.defScope (L2.inClass (topO 21) 8)) .none .none .none (.str s23 299) none (.ref 266) .none), #[]⟩ := by rw [← top_eq]; kernel_rfl
theorem lk_Fractions_read (P : Params) : (K P).lookup 274 = some ⟨(.type PySem.W.SL.s7174869446012820540x8), none, .func (fnOf (PySem.Str.ofString "read") (PySem.Str.ofString "Fractions.read") (L2.defArgs (L2.inClass (topO 21) 9)) (L2.defBody (L2.inClass (topO 21) 9)) (L2.defScope (L2.inClass (topO 21) 9)) .none .none .none (.str s23 299) none (.ref 273) .none), #[]⟩ := by rw [← top_eq]; kernel_rfl
theorem lk_Residues___init__ (P : Params) : (K P).lookup 293 = some ⟨(.type PySem.W.SL.s7174869446012820540x8), none, .func (fnOf (PySem.Str.ofString "__init__") (PySem.Str.ofString "Residues.__init__") (L2.defArgs (L2.inClass (topO 22) 0)) (L2.defBody (L2.inClass (topO 22) 0)) (L2.defScope (L2.inClass (topO 22) 0)) .none .none .none (.str s23 299) none (.ref 292) .none), #[]⟩ := by rw [← top_eq]; kernel_rfl
theorem lk_Residues_told (P : Params) : (K P).lookup 300 = some ⟨(.type PySem.W.SL.s7174869446012820540x8), none, .func (fnOf (PySem.Str.ofString "told") (PySem.Str.ofString "Residues.told") (L2.defArgs (L2.inClass (topO 22) 1)) (L2.defBody (L2.inClass (topO 22) 1)) (L2.defScope (L2.inClass (topO 22) 1)) .none .none .none (.str s23 299) none (.ref 299) .none), #[]⟩ := by rw [← top_eq]; kernel_rfl
theorem lk_Residues_nought (P : Params) : (K P).lookup 307 = some ⟨(.type PySem.W.SL.s7174869446012820540x8), none, .func (fnOf (PySem.Str.ofString "nought") (PySem.Str.ofString "Residues.nought") (L2.defArgs (L2.inClass (topO 22) 2)) (L2.defBody (L2.inClass (topO 22) 2)) (L2.defScope (L2.inClass (topO 22) 2)) .none .none .none (.str s23 299) none (.ref 306) .none), #[]⟩ := by rw [← top_eq]; kernel_rfl
theorem lk_Residues_one (P : Params) : (K P).lookup 314 = some ⟨(.type PySem.W.SL.s7174869446012820540x8), none, .func (fnOf (PySem.Str.ofString "one") (PySem.Str.ofString "Residues.one") (L2.defArgs (L2.inClass (topO 22) 3)) (L2.defBody (L2.inClass (topO 22) 3)) (L2.defScope (L2.inClass (topO 22) 3)) .none .none .none (.str s23 299) none (.ref 313) .none), #[]⟩ := by rw [← top_eq]; kernel_rfl
theorem lk_Residues_plus (P : Params) : (K P).lookup 321 = some ⟨(.type PySem.W.SL.s7174869446012820540x8), none, .func (fnOf (PySem.Str.ofString "plus") (PySem.Str.ofString "Residues.plus") (L2.defArgs (L2.inClass (topO 22) 4)) (L2.defBody (L2.inClass (topO 22) 4)) (L2.defScope (L2.inClass (topO 22) 4)) .none .none .none (.str s23 299) none (.ref 320) .none), #[]⟩ := by rw [← top_eq]; kernel_rfl
theorem lk_Residues_times (P : Params) : (K P).lookup 328 = some ⟨(.type PySem.W.SL.s7174869446012820540x8), none, .func (fnOf (PySem.Str.ofString "times") (PySem.Str.ofString "Residues.times") (L2.defArgs (L2.inClass (topO 22) 5)) (L2.defBody (L2.inClass (topO 22) 5)) (L2.defScope (L2.inClass (topO 22) 5)) .none .none .none (.str s23 299) none (.ref 327) .none), #[]⟩ := by rw [← top_eq]; kernel_rfl
theorem lk_Residues_minus (P : Params) : (K P).lookup 335 = some ⟨(.type PySem.W.SL.s7174869446012820540x8), none, .func (fnOf (PySem.Str.ofString "minus") (PySem.Str.ofString "Residues.minus") (L2.defArgs (L2.inClass (topO 22) 6)) (L2.defBody (L2.inClass (topO 22) 6)) (L2.defScope (L2.inClass (topO 22) 6)) .none .none .none (.str s23 299) none (.ref 334) .none), #[]⟩ := by rw [← top_eq]; kernel_rfl
theorem lk_Residues_inverse (P : Params) : (K P).lookup 342 = some ⟨(.type PySem.W.SL.s7174869446012820540x8), none, .func (fnOf (PySem.Str.ofString "inverse") (PySem.Str.ofString "Residues.inverse") (L2.defArgs (L2.inClass (topO 22) 7)) (L2.defBody (L2.inClass (topO 22) 7)) (L2.defScope (L2.inClass (topO 22) 7)) .none .none .none (.str s23 299) none (.ref 341) .none), #[]⟩ := by rw [← top_eq]; kernel_rfl
theorem lk_Residues_is_weight (P : Params) : (K P).lookup 349 = some ⟨(.type PySem.W.SL.s7174869446012820540x8), none, .func (fnOf (PySem.Str.ofString "is_weight") (PySem.Str.ofString "Residues.is_weight") (L2.defArgs (L2.inClass (topO 22) 8)) (L2.defBody (L2.inClass (topO 22) 8)) (L2.defScope (L2.inClass (topO 22) 8)) .none .none .none (.str s23 299) none (.ref 348) .none), #[]⟩ := by rw [← top_eq]; kernel_rfl
theorem lk_Residues_shown (P : Params) : (K P).lookup 356 = some ⟨(.type PySem.W.SL.s7174869446012820540x8), none, .func (fnOf (PySem.Str.ofString "shown") (PySem.Str.ofString "Residues.shown") (L2.defArgs (L2.inClass (topO 22) 9)) (L2.defBody (L2.inClass (topO 22) 9)) (L2.defScope (L2.inClass (topO 22) 9)) .none .none .none (.str s23 299) none (.ref 355) .none), #[]⟩ := by rw [← top_eq]; kernel_rfl
theorem lk_Residues_read (P : Params) : (K P).lookup 363 = some ⟨(.type PySem.W.SL.s7174869446012820540x8), none, .func (fnOf (PySem.Str.ofString "read") (PySem.Str.ofString "Residues.read") (L2.defArgs (L2.inClass (topO 22) 10)) (L2.defBody (L2.inClass (topO 22) 10)) (L2.defScope (L2.inClass (topO 22) 10)) .none .none .none (.str s23 299) none (.ref 362) .none), #[]⟩ := by rw [← top_eq]; kernel_rfl
theorem lk_Costs_told (P : Params) : (K P).lookup 382 = some ⟨(.type PySem.W.SL.s7174869446012820540x8), none, .func (fnOf (PySem.Str.ofString "told") (PySem.Str.ofString "Costs.told") (L2.defArgs (L2.inClass (topO 23) 0)) (L2.defBody (L2.inClass (topO 23) 0)) (L2.defScope (L2.inClass (topO 23) 0)) .none .none .none (.str s23 299) none (.ref 381) .none), #[]⟩ := by rw [← top_eq]; kernel_rfl
theorem lk_Costs_nought (P : Params) : (K P).lookup 389 = some ⟨(.type PySem.W.SL.s7174869446012820540x8), none, .func (fnOf (PySem.Str.ofString "nought") (PySem.Str.ofString "Costs.nought") (L2.defArgs (L2.inClass (topO 23) 1)) (L2.defBody (L2.inClass (topO 23) 1)) (L2.defScope (L2.inClass (topO 23) 1)) .none .none .none (.str s23 299) none (.ref 388) .none), #[]⟩ := by rw [← top_eq]; kernel_rfl
theorem lk_Costs_one (P : Params) : (K P).lookup 396 = some ⟨(.type PySem.W.SL.s7174869446012820540x8), none, .func (fnOf (PySem.Str.ofString "one") (PySem.Str.ofString "Costs.one") (L2.defArgs (L2.inClass (topO 23) 2)) (L2.defBody (L2.inClass (topO 23) 2)) (L2.defScope (L2.inClass (topO 23) 2)) .none .none .none (.str s23 299) none (.ref 395) .none), #[]⟩ := by rw [← top_eq]; kernel_rfl
theorem lk_Costs_plus (P : Params) : (K P).lookup 403 = some ⟨(.type PySem.W.SL.s7174869446012820540x8), none, .func (fnOf (PySem.Str.ofString "plus") (PySem.Str.ofString "Costs.plus") (L2.defArgs (L2.inClass (topO 23) 3)) (L2.defBody (L2.inClass (topO 23) 3)) (L2.defScope (L2.inClass (topO 23) 3)) .none .none .none (.str s23 299) none (.ref 402) .none), #[]⟩ := by rw [← top_eq]; kernel_rfl
theorem lk_Costs_times (P : Params) : (K P).lookup 410 = some ⟨(.type PySem.W.SL.s7174869446012820540x8), none, .func (fnOf (PySem.Str.ofString "times") (PySem.Str.ofString "Costs.times") (L2.defArgs (L2.inClass (topO 23) 4)) (L2.defBody (L2.inClass (topO 23) 4)) (L2.defScope (L2.inClass (topO 23) 4)) .none .none .none (.str s23 299) none (.ref 409) .none), #[]⟩ := by rw [← top_eq]; kernel_rfl
theorem lk_Costs_is_weight (P : Params) : (K P).lookup 417 = some ⟨(.type PySem.W.SL.s7174869446012820540x8), none, .func (fnOf (PySem.Str.ofString "is_weight") (PySem.Str.ofString "Costs.is_weight") (L2.defArgs (L2.inClass (topO 23) 5)) (L2.defBody (L2.inClass (topO 23) 5)) (L2.defScope (L2.inClass (topO 23) 5)) .none .none .none (.str s23 299) none (.ref 416) .none), #[]⟩ := by rw [← top_eq]; kernel_rfl
theorem lk_Costs_shown (P : Params) : (K P).lookup 424 = some ⟨(.type PySem.W.SL.s7174869446012820540x8), none, .func (fnOf (PySem.Str.ofString "shown") (PySem.Str.ofString "Costs.shown") (L2.defArgs (L2.inClass (topO 23) 6)) (L2.defBody (L2.inClass (topO 23) 6)) (L2.defScope (L2.inClass (topO 23) 6)) .none .none .none (.str s23 299) none (.ref 423) .none), #[]⟩ := by rw [← top_eq]; kernel_rfl
theorem lk_Costs_read (P : Params) : (K P).lookup 431 = some ⟨(.type PySem.W.SL.s7174869446012820540x8), none, .func (fnOf (PySem.Str.ofString "read") (PySem.Str.ofString "Costs.read") (L2.defArgs (L2.inClass (topO 23) 7)) (L2.defBody (L2.inClass (topO 23) 7)) (L2.defScope (L2.inClass (topO 23) 7)) .none .none .none (.str s23 299) none (.ref 430) .none), #[]⟩ := by rw [← top_eq]; kernel_rfl
theorem lk_Truths_told (P : Params) : (K P).lookup 450 = some ⟨(.type PySem.W.SL.s7174869446012820540x8), none, .func (fnOf (PySem.Str.ofString "told") (PySem.Str.ofString "Truths.told") (L2.defArgs (L2.inClass (topO 24) 0)) (L2.defBody (L2.inClass (topO 24) 0)) (L2.defScope (L2.inClass (topO 24) 0)) .none .none .none (.str s23 299) none (.ref 449) .none), #[]⟩ := by rw [← top_eq]; kernel_rfl
theorem lk_Truths_nought (P : Params) : (K P).lookup 457 = some ⟨(.type PySem.W.SL.s7174869446012820540x8), none, .func (fnOf (PySem.Str.ofString "nought") (PySem.Str.ofString "Truths.nought") (L2.defArgs (L2.inClass (topO 24) 1)) (L2.defBody (L2.inClass (topO 24) 1)) (L2.defScope (L2.inClass (topO 24) 1)) .none .none .none (.str s23 299) none (.ref 456) .none), #[]⟩ := by rw [← top_eq]; kernel_rfl
theorem lk_Truths_one (P : Params) : (K P).lookup 464 = some ⟨(.type PySem.W.SL.s7174869446012820540x8), none, .func (fnOf (PySem.Str.ofString "one") (PySem.Str.ofString "Truths.one") (L2.defArgs (L2.inClass (topO 24) 2)) (L2.defBody (L2.inClass (topO 24) 2)) (L2.defScope (L2.inClass (topO 24) 2)) .none .none .none (.str s23 299) none (.ref 463) .none), #[]⟩ := by rw [← top_eq]; kernel_rfl
theorem lk_Truths_plus (P : Params) : (K P).lookup 471 = some ⟨(.type PySem.W.SL.s7174869446012820540x8), none, .func (fnOf (PySem.Str.ofString "plus") (PySem.Str.ofString "Truths.plus") (L2.defArgs (L2.inClass (topO 24) 3)) (L2.defBody (L2.inClass (topO 24) 3)) (L2.defScope (L2.inClass (topO 24) 3)) .none .none .none (.str s23 299) none (.ref 470) .none), #[]⟩ := by rw [← top_eq]; kernel_rfl
theorem lk_Truths_times (P : Params) : (K P).lookup 478 = some ⟨(.type PySem.W.SL.s7174869446012820540x8), none, .func (fnOf (PySem.Str.ofString "times") (PySem.Str.ofString "Truths.times") (L2.defArgs (L2.inClass (topO 24) 4)) (L2.defBody (L2.inClass (topO 24) 4)) (L2.defScope (L2.inClass (topO 24) 4)) .none .none .none (.str s23 299) none (.ref 477) .none), #[]⟩ := by rw [← top_eq]; kernel_rfl
theorem lk_Truths_is_weight (P : Params) : (K P).lookup 485 = some ⟨(.type PySem.W.SL.s7174869446012820540x8), none, .func (fnOf (PySem.Str.ofString "is_weight") (PySem.Str.ofString "Truths.is_weight") (L2.defArgs (L2.inClass (topO 24) 5)) (L2.defBody (L2.inClass (topO 24) 5)) (L2.defScope (L2.inClass (topO 24) 5)) .none .none .none (.str s23 299) none (.ref 484) .none), #[]⟩ := by rw [← top_eq]; kernel_rfl
theorem lk_Truths_shown (P : Params) : (K P).lookup 492 = some ⟨(.type PySem.W.SL.s7174869446012820540x8), none, .func (fnOf (PySem.Str.ofString "shown") (PySem.Str.ofString "Truths.shown") (L2.defArgs (L2.inClass (topO 24) 6)) (L2.defBody (L2.inClass (topO 24) 6)) (L2.defScope (L2.inClass (topO 24) 6)) .none .none .none (.str s23 299) none (.ref 491) .none), #[]⟩ := by rw [← top_eq]; kernel_rfl
theorem lk_Truths_read (P : Params) : (K P).lookup 499 = some ⟨(.type PySem.W.SL.s7174869446012820540x8), none, .func (fnOf (PySem.Str.ofString "read") (PySem.Str.ofString "Truths.read") (L2.defArgs (L2.inClass (topO 24) 7)) (L2.defBody (L2.inClass (topO 24) 7)) (L2.defScope (L2.inClass (topO 24) 7)) .none .none .none (.str s23 299) none (.ref 498) .none), #[]⟩ := by rw [← top_eq]; kernel_rfl
theorem lk__law_divisor (P : Params) : (K P).lookup 511 = some ⟨(.type PySem.W.SL.s7174869446012820540x8), none, .func (fnOf (PySem.Str.ofString "_law_divisor") (PySem.Str.ofString "_law_divisor") (L2.defArgs (topO 26)) (L2.defBody (topO 26)) (L2.defScope (topO 26)) .none .none .none (.str s108 784) none (.ref 510) .none), #[]⟩ := by rw [← top_eq]; kernel_rfl
theorem lk__law_low (P : Params) : (K P).lookup 518 = some ⟨(.type PySem.W.SL.s7174869446012820540x8), none, .func (fnOf (PySem.Str.ofString "_law_low") (PySem.Str.ofString "_law_low") (L2.defArgs (topO 27)) (L2.defBody (topO 27)) (L2.defScope (topO 27)) .none .none .none (.str s108 784) none (.ref 517) .none), #[]⟩ := by rw [← top_eq]; kernel_rfl
theorem lk__law_kinds (P : Params) : (K P).lookup 525 = some ⟨(.type PySem.W.SL.s7174869446012820540x8), none, .func (fnOf (PySem.Str.ofString "_law_kinds") (PySem.Str.ofString "_law_kinds") (L2.defArgs (topO 28)) (L2.defBody (topO 28)) (L2.defScope (topO 28)) .none .none .none (.str s108 784) none (.ref 524) .none), #[]⟩ := by rw [← top_eq]; kernel_rfl
theorem lk__law_weight (P : Params) : (K P).lookup 532 = some ⟨(.type PySem.W.SL.s7174869446012820540x8), none, .func (fnOf (PySem.Str.ofString "_law_weight") (PySem.Str.ofString "_law_weight") (L2.defArgs (topO 29)) (L2.defBody (topO 29)) (L2.defScope (topO 29)) .none .none .none (.str s108 784) none (.ref 531) .none), #[]⟩ := by rw [← top_eq]; kernel_rfl
theorem lk__law_three (P : Params) : (K P).lookup 539 = some ⟨(.type PySem.W.SL.s7174869446012820540x8), none, .func (fnOf (PySem.Str.ofString "_law_three") (PySem.Str.ofString "_law_three") (L2.defArgs (topO 30)) (L2.defBody (topO 30)) (L2.defScope (topO 30)) .none .none .none (.str s108 784) none (.ref 538) .none), #[]⟩ := by rw [← top_eq]; kernel_rfl
theorem lk__law_edges (P : Params) : (K P).lookup 546 = some ⟨(.type PySem.W.SL.s7174869446012820540x8), none, .func (fnOf (PySem.Str.ofString "_law_edges") (PySem.Str.ofString "_law_edges") (L2.defArgs (topO 31)) (L2.defBody (topO 31)) (L2.defScope (topO 31)) .none .none .none (.str s108 784) none (.ref 545) .none), #[]⟩ := by rw [← top_eq]; kernel_rfl
theorem lk_law (P : Params) : (K P).lookup 553 = some ⟨(.type PySem.W.SL.s7174869446012820540x8), none, .func (fnOf (PySem.Str.ofString "law") (PySem.Str.ofString "law") (L2.defArgs (topO 32)) (L2.defBody (topO 32)) (L2.defScope (topO 32)) .none .none .none (.str s108 784) none (.ref 552) .none), #[]⟩ := by rw [← top_eq]; kernel_rfl
end H05

set_option maxHeartbeats 4000000
/-! Own rules beside the layer: great ints, isinstance, a class without its own __init__, data compared. -/
namespace L2
open PySem PySem.Spec PyProof.Rows PySem.SeqAt
section
variable {X : Cx}
def CMulB (i j : Int) : Prop := Builtin.Int.intBits i ≤ 2 ^ 20 ∧ Builtin.Int.intBits j ≤ 2 ^ 20
theorem op_mulB : OpR X (binaryOp .Mult) (rI CMulB fun i j => .int (i * j)) := opI fun _ _ _ _ _ _ _ hc q => mul_int q (PySem.IntMulOk.of_bits hc.1 hc.2)
def CDivB (_ j : Int) : Prop := j ≠ 0 ∧ j.natAbs.log2 < 9000
theorem op_fdivB : OpR X (binaryOp .FloorDiv) (rI CDivB fun i j => .int (i.fdiv j)) := opI fun _ _ _ _ _ _ _ hc q => floordiv_int hc.1 q (Or.inl (PyProof.noPylong_of_log2 hc.2))
/-- isinstance(x, n), n the name of a built-in type -/
def rIsi (K : PySem.W.Frag) : List V → Hp → VK → Prop := fun xs H Q => ∃ x n t b, xs = [x, .ty n] ∧ TyOf K H x t ∧ PySem.W.kitOne K t (.type n) = some b ∧ Q (.bl b) H
theorem call_isi : CallR X (.builtin "isinstance") (rIsi X.K) := by
  intro pins s σ H xs us Q I r h
  obtain ⟨x, n, t, b, rfl, ty, e, q⟩ := h
  cases r with
  | cons rx r1 =>
    cases r1 with
    | cons ry r2 =>
      cases r2
      cases ry
      exact isinst_ok I rx ty e fun tk => ⟨.bl b, H, I.tok _, rfl, q⟩
/-- a class that has no __init__ of its own -/
structure MkO (K : PySem.W.Frag) (C : Addr) : Prop where
  makes : PySem.W.makesIn K C = true
  init : PySem.W.findIn K (.ref C) "__init__" = some (some (.builtin "object.__init__"))
  kp : PySem.W.keepIn K (.ref C) = true
def tMakeO (C : Addr) : TE := fun _ H Q => ∀ x dx, H x = none → H dx = none → dx ≠ x → Q (.ref x) (upd (upd H dx (.own x)) x (.ins C dx []))
theorem pe_makeO {C : Addr} {x : Str} {p pos : Pos} (M : MkO X.K C) (hg : Gl X x) (hm : X.mg x = some (.ref C)) (hdb : (x == ("__debug__" : Str)) = false := by decide) : PE X (.Call (.Name x p) [] [] pos) (tMakeO C) := by
  intro pins s σ H Q I h
  refine wpAny_Call_Name_kw (ld_glob I hg hm ?_ hdb)
  refine PySem.W.callWith_K0 I.kIn M.kp ?_
  have hq := h (s.heap.objs.size + 1) s.heap.objs.size (I.hok.fresh (Nat.le_succ _)) (I.hok.fresh (Nat.le_refl _)) (Nat.ne_of_lt (Nat.lt_succ_self _))
  have I2 := Inv.made (C := C) I
  have Y := PySem.W.makes_of (M := model X.prog X.w) I.kIn M.makes
  refine wpAny_call (make_map0 I.kIn M.makes M.init (fun self => PySem.W.Looks.of_pure (PySem.W.oi_bind self)) ?_)
  have t1 : PySem.W.Looks (model X.prog X.w) ((s.heap.push PySem.W.emptyDict).push (PySem.W.instObj C s.heap.objs.size)) (typeOf (.ref (s.heap.objs.size + 1))) (.ref C) :=
    (PySem.W.Looks.ld (o := PySem.W.instObj C s.heap.objs.size) (by have e : ((s.heap.push PySem.W.emptyDict).push (PySem.W.instObj C s.heap.objs.size)).get? (s.heap.push PySem.W.emptyDict).objs.size = some (PySem.W.instObj C s.heap.objs.size) := Heap.get?_push_size _ rfl; rw [Heap.size_push] at e; exact e)).andThen .now
  have t2 : PySem.W.Looks (model X.prog X.w) ((s.heap.push PySem.W.emptyDict).push (PySem.W.instObj C s.heap.objs.size)) (isInstance (.ref (s.heap.objs.size + 1)) (.type "object")) true :=
    t1.andThen (Y.top.keeps fun b o e => Heap.get?_push_of_some _ (Heap.get?_push_of_some _ e))
  refine PySem.codeAny_call_builtin PySem.W.oi_plain PySem.W.entry_oi (@PySem.W.check_slot (model X.prog X.w) _ _ _ "object.__init__" "object" "__init__" (.ref (s.heap.objs.size + 1)) [] [] _ PySem.W.oi_kind PySem.W.oi_split t2 (PySem.W.oi_args (.ref (s.heap.objs.size + 1))) ?_)
  rw [PySem.W.oi_run]
  exact wpAny_pure (And.intro rfl ⟨V.ref (s.heap.objs.size + 1), _, I2, rfl, hq⟩)
end
/-! data -/
mutual
inductive Is (K : PySem.W.Frag) (H : Hp) : V → PyData → Prop
  | non : Is K H .non .none
  | bl (b : Bool) : Is K H (.bl b) (.bool b)
  | int (i : Int) : Is K H (.int i) (.int i)
  | str (x : Str) : Is K H (.str x) (.str x)
  | tup {a : Addr} {xs : List V} {ds : List PyData} : SqT K H a xs → IsAll K H xs ds → Is K H (.ref a) (.tuple ds)
  | lst {a : Addr} {xs : List V} {ds : List PyData} : SqL K H a xs → IsAll K H xs ds → Is K H (.ref a) (.list ds)
inductive IsAll (K : PySem.W.Frag) (H : Hp) : List V → List PyData → Prop
  | nil : IsAll K H [] []
  | cons {v : V} {vs : List V} {d : PyData} {ds : List PyData} : Is K H v d → IsAll K H vs ds → IsAll K H (v :: vs) (d :: ds)
end
theorem Same.tup {K : PySem.W.Frag} {H H' : Hp} {a : Addr} {xs : List V} (e : Same H H') (h : SqT K H a xs) : SqT K H' a xs := by
  rcases h with (h | ⟨o, h⟩) | h
  · exact .inl (.inl (e _ _ h))
  · exact .inl (.inr ⟨o, e _ _ h⟩)
  · exact .inr h
mutual
theorem Is.same {K : PySem.W.Frag} {H H' : Hp} (e : Same H H') : ∀ {v : V} {d : PyData}, Is K H v d → Is K H' v d
  | _, _, .non => .non
  | _, _, .bl b => .bl b
  | _, _, .int i => .int i
  | _, _, .str x => .str x
  | _, _, .tup h r => .tup (e.tup h) (IsAll.same e r)
  | _, _, .lst h r => .lst (e.seq h) (IsAll.same e r)
theorem IsAll.same {K : PySem.W.Frag} {H H' : Hp} (e : Same H H') : ∀ {v : List V} {d : List PyData}, IsAll K H v d → IsAll K H' v d
  | _, _, .nil => .nil
  | _, _, .cons a r => .cons (Is.same e a) (IsAll.same e r)
end
section
variable {X : Cx} {pins : List (Addr × Obj)} {σ : St} {H : Hp} {s : Shared}
mutual
theorem Is.reads (I : Inv X pins σ H s) : ∀ {v : V} {d : PyData} {u : Value}, Is X.K H v d → RelV v u → ∃ as, Reads s.heap u d as
  | _, _, _, .non, r => by cases r; exact ⟨_, .none⟩
  | _, _, _, .bl b, r => by cases r; exact ⟨_, .bool b⟩
  | _, _, _, .int i, r => by obtain ⟨t, rfl⟩ := r; exact ⟨_, .int i t⟩
  | _, _, _, .str x, r => by obtain ⟨t, rfl⟩ := r; exact ⟨_, .str x t⟩
  | _, _, _, .tup h a, r => by
    cases r
    obtain ⟨its, rv, ⟨o, ho, hc, n, hd⟩, _⟩ := I.tuple h
    obtain ⟨as, hr⟩ := IsAll.reads I a rv
    exact ⟨as, .tuple ho hc hd (by simpa using hr)⟩
  | _, _, _, .lst h a, r => by
    cases r
    obtain ⟨its, rv, ⟨o, n, ho, hc, _, hd⟩, _⟩ := I.list h
    obtain ⟨as, hr⟩ := IsAll.reads I a rv
    exact ⟨_, .list ho hc hd (by simpa using hr)⟩
theorem IsAll.reads (I : Inv X pins σ H s) : ∀ {vs : List V} {ds : List PyData} {us : List Value}, IsAll X.K H vs ds → Vals vs us → ∃ as, ReadsAll s.heap us ds as
  | _, _, _, .nil, .nil => ⟨_, .nil⟩
  | _, _, _, .cons a r, .cons q t => by
    obtain ⟨as, h1⟩ := Is.reads I a q
    obtain ⟨bs, h2⟩ := IsAll.reads I r t
    exact ⟨_, .cons h1 h2⟩
end
def rEqD (K : PySem.W.Frag) : R2 := fun x y H Q => ∃ d d', Is K H x d ∧ Is K H y d' ∧ shaped d = true ∧ shaped d' = true ∧ noMix d d' = true ∧ Q (.bl (PySem.Spec.same d d')) H
def rNeD (K : PySem.W.Frag) : R2 := fun x y H Q => ∃ d d', Is K H x d ∧ Is K H y d' ∧ shaped d = true ∧ shaped d' = true ∧ noMix d d' = true ∧ Q (.bl (!PySem.Spec.same d d')) H
theorem op_eqD (hu : X.A.units + 64 < cLine) : OpR X (compareOp .Eq) (rEqD X.K) := by
  intro pins s σ H x y v u Q I rx ry h
  obtain ⟨d, d', hx, hy, sx, sy, nm, q⟩ := h
  obtain ⟨as, ra⟩ := hx.reads I rx
  obtain ⟨bs, rb⟩ := hy.reads I ry
  exact eq_dataH_same ra rb sx sy hu nm ⟨.bl _, H, I, rfl, q⟩
theorem op_neD (hu : X.A.units + 64 < cLine) : OpR X (compareOp .NotEq) (rNeD X.K) := by
  intro pins s σ H x y v u Q I rx ry h
  obtain ⟨d, d', hx, hy, sx, sy, nm, q⟩ := h
  obtain ⟨as, ra⟩ := hx.reads I rx
  obtain ⟨bs, rb⟩ := hy.reads I ry
  exact ne_dataH_same ra rb sx sy hu nm ⟨.bl _, H, I, rfl, q⟩
end
/-! tests -/
theorem iteI {i j : Int} {A B : Prop} (h1 : i = j → A) (h2 : ¬ i = j → B) : if decide (V.int i = V.int j) = true then A else B := by
  by_cases h : i = j
  · rw [if_pos (decide_eq_true (congrArg V.int h))]; exact h1 h
  · rw [if_neg (by simpa using h)]; exact h2 h
theorem iteNI {i j : Int} {A B : Prop} (h1 : ¬ i = j → A) (h2 : i = j → B) : if (!decide (V.int i = V.int j)) = true then A else B := by
  by_cases h : i = j
  · rw [if_neg (by simpa using h)]; exact h2 h
  · rw [if_pos (by simpa using h)]; exact h1 h
theorem iteP {p A B : Prop} [Decidable p] (h1 : p → A) (h2 : ¬ p → B) : if decide p = true then A else B := by
  by_cases h : p
  · rw [if_pos (decide_eq_true h)]; exact h1 h
  · rw [if_neg (by simpa using h)]; exact h2 h
theorem iteYes {c : Bool} {A B : Prop} (e : c = true) (h : A) : if c = true then A else B := by rw [if_pos e]; exact h
theorem iteNo {c : Bool} {A B : Prop} (e : c = false) (h : B) : if c = true then A else B := by rw [if_neg (by rw [e]; decide)]; exact h
theorem same_upd {H : Hp} {p : Addr} {o : HO} (h : H p = none) : Same H (upd H p o) := fun b u e => by
  rw [upd_ne (ne_of_none e h)]; exact e
end L2
namespace Mine
@[irreducible] def dv (a b : Int) : Int := (Int.gcd a b : Int)
theorem dv_nonneg (a b : Int) : 0 ≤ dv a b := by unfold dv; exact Int.natCast_nonneg _
theorem fm (x y : Int) : x.fmod y = x - y * x.fdiv y := Int.fmod_def x y
theorem dv_fmod (a b : Int) : dv b (a.fmod b) = dv a b := by
  unfold dv
  have e : a.fmod b = a - a.fdiv b * b := by rw [Int.fmod_def, Int.mul_comm]
  rw [e, Int.gcd_sub_mul_right_right, Int.gcd_comm]
theorem dv_zero (a : Int) : dv a 0 = (a.natAbs : Int) := by
  unfold dv; rw [Int.gcd_zero_right]
theorem dv_abs (a b : Int) : dv (a.natAbs : Int) (b.natAbs : Int) = dv a b := by
  unfold dv Int.gcd; simp
theorem fmod_abs_lt (a b : Int) (h : b ≠ 0) : (a.fmod b).natAbs < b.natAbs := by
  rcases Int.lt_trichotomy b 0 with hb | hb | hb
  · have e : a.fmod b = -((-a).fmod (-b)) := by
      simp [Int.neg_fmod_neg] 
    have h1 := Int.fmod_nonneg_of_pos (-a) (show 0 < -b by omega)
    have h2 := Int.fmod_lt_of_pos (-a) (show 0 < -b by omega)
    omega
  · exact absurd hb h
  · have h1 := Int.fmod_nonneg_of_pos a hb
    have h2 := Int.fmod_lt_of_pos a hb
    omega
/-- divisor's loop -/
theorem d_turn {a b g r : Int} (h : dv g r = dv a b) (hr : 0 < r) : 0 ≤ r ∧ 0 ≤ g.fmod r ∧ dv r (g.fmod r) = dv a b :=
  ⟨by omega, Int.fmod_nonneg_of_pos g hr, by rw [dv_fmod, h]⟩
theorem d_less {g r : Int} (hr : 0 < r) : (g.fmod r).toNat < r.toNat := by
  have h1 := Int.fmod_nonneg_of_pos g hr
  have h2 := Int.fmod_lt_of_pos g hr
  omega
theorem d_out {a b g r : Int} (h : dv g r = dv a b) (g0 : 0 ≤ g) (r0 : 0 ≤ r) (hr : ¬ 0 < r) : g = dv a b := by
  have e : r = 0 := by omega
  rw [← h, e, dv_zero]; omega
/-- the law's loop -/
theorem l_turn {a b x y : Int} (h : dv x y = dv a b) : dv y (x.fmod y) = dv a b := by rw [dv_fmod, h]
theorem l_out {a b x y : Int} (h : dv x y = dv a b) (hy : y = 0) : (x.natAbs : Int) = dv a b := by
  rw [← h, hy, dv_zero]
/-- what divides -/
theorem dv_left (a b : Int) : ∃ q, a = dv a b * q := by
  obtain ⟨q, hq⟩ := Int.gcd_dvd_left a b
  exact ⟨q, by unfold dv; exact hq⟩
theorem dv_right (a b : Int) : ∃ q, b = dv a b * q := by
  obtain ⟨q, hq⟩ := Int.gcd_dvd_right a b
  exact ⟨q, by unfold dv; exact hq⟩
theorem dv_eq_zero {a b : Int} (h : dv a b = 0) : a = 0 ∧ b = 0 := by
  obtain ⟨q, hq⟩ := dv_left a b
  obtain ⟨r, hr⟩ := dv_right a b
  rw [h] at hq hr
  exact ⟨by omega, by omega⟩
theorem dv_pos {a b : Int} (h : b ≠ 0) : 0 < dv a b := by
  have := dv_nonneg a b
  rcases (by omega : dv a b = 0 ∨ 0 < dv a b) with e | e
  · exact absurd (dv_eq_zero e).2 h
  · exact e
theorem fmod_left (a b : Int) : a.fmod (dv a b) = 0 := by
  obtain ⟨q, hq⟩ := dv_left a b
  have : dv a b ∣ a := ⟨q, hq⟩
  rw [Int.fmod_eq_emod_of_nonneg a (dv_nonneg a b)]
  exact Int.emod_eq_zero_of_dvd this
theorem fmod_right (a b : Int) : b.fmod (dv a b) = 0 := by
  obtain ⟨q, hq⟩ := dv_right a b
  have : dv a b ∣ b := ⟨q, hq⟩
  rw [Int.fmod_eq_emod_of_nonneg b (dv_nonneg a b)]
  exact Int.emod_eq_zero_of_dvd this
theorem dv_le (a b : Int) (h : b ≠ 0) : dv a b ≤ (b.natAbs : Int) := by
  have : Int.gcd a b ≤ b.natAbs := by
    unfold Int.gcd
    exact Nat.gcd_le_right _ (by omega)
  unfold dv; omega
theorem fdiv_mul {g q : Int} (hg : g ≠ 0) : (g * q).fdiv g = q := Int.mul_fdiv_cancel_left q hg
/-- a fraction's top and bottom; the divisor, or its minus where the bottom is below nought -/
@[irreducible] def sg (a b : Int) : Int := if b < 0 then -(dv a b) else dv a b
@[irreducible] def tp (a b : Int) : Int := a.fdiv (sg a b)
@[irreducible] def bt (a b : Int) : Int := b.fdiv (sg a b)
theorem sg_pos {a b : Int} (h : ¬ b < 0) : sg a b = dv a b := by unfold sg; rw [if_neg h]
theorem sg_neg {a b : Int} (h : b < 0) : sg a b = -(dv a b) := by unfold sg; rw [if_pos h]
theorem sg_ne {a b : Int} (h : b ≠ 0) : sg a b ≠ 0 := by
  have := dv_pos (a := a) h
  unfold sg; split <;> omega
theorem tp_mul {a b : Int} (h : b ≠ 0) : sg a b * tp a b = a := by
  obtain ⟨q, hq⟩ := dv_left a b
  have hs := sg_ne (a := a) h
  have : ∃ k, a = sg a b * k := by
    unfold sg; split
    · exact ⟨-q, by rw [Int.neg_mul_neg]; exact hq⟩
    · exact ⟨q, hq⟩
  obtain ⟨k, hk⟩ := this
  have e : tp a b = k := by
    unfold tp
    conv => lhs; lhs; rw [hk]
    exact fdiv_mul hs
  rw [e]; exact hk.symm
theorem bt_mul {a b : Int} (h : b ≠ 0) : sg a b * bt a b = b := by
  obtain ⟨q, hq⟩ := dv_right a b
  have hs := sg_ne (a := a) h
  have : ∃ k, b = sg a b * k := by
    unfold sg; split
    · exact ⟨-q, by rw [Int.neg_mul_neg]; exact hq⟩
    · exact ⟨q, hq⟩
  obtain ⟨k, hk⟩ := this
  have e : bt a b = k := by
    unfold bt
    conv => lhs; lhs; rw [hk]
    exact fdiv_mul hs
  rw [e]; exact hk.symm
theorem bt_pos {a b : Int} (h : b ≠ 0) : 0 < bt a b := by
  have e := bt_mul (a := a) h
  have g := dv_pos (a := a) h
  rcases (by omega : 0 < bt a b ∨ bt a b ≤ 0) with p | p
  · exact p
  · exfalso
    by_cases hb : b < 0
    · rw [sg_neg hb, Int.neg_mul] at e
      have := Int.mul_nonpos_of_nonneg_of_nonpos (Int.le_of_lt g) p
      omega
    · rw [sg_pos hb] at e
      have := Int.mul_nonpos_of_nonneg_of_nonpos (Int.le_of_lt g) p
      omega
theorem cross {a b : Int} (h : b ≠ 0) : tp a b * b = a * bt a b := by
  have e1 := tp_mul (a := a) h
  have e2 := bt_mul (a := a) h
  calc tp a b * b = tp a b * (sg a b * bt a b) := by rw [e2]
    _ = (sg a b * tp a b) * bt a b := by rw [Int.mul_comm (sg a b) (tp a b), Int.mul_assoc]
    _ = a * bt a b := by rw [e1]
theorem natAbs_sg (a b : Int) : (sg a b).natAbs = Int.gcd a b := by
  unfold sg dv; split <;> omega
theorem gcd_scale {a b s t u : Int} (e1 : s * t = a) (e2 : s * u = b) : Int.gcd a b = s.natAbs * Int.gcd t u := by
  rw [← e1, ← e2, Int.gcd_mul_left]
theorem low {a b : Int} (h : b ≠ 0) : dv (tp a b) (bt a b) = 1 := by
  have e := gcd_scale (tp_mul (a := a) h) (bt_mul (a := a) h)
  rw [natAbs_sg] at e
  have p := dv_pos (a := a) h
  have q : 0 < Int.gcd a b := by unfold dv at p; omega
  have : Int.gcd a b * Int.gcd (tp a b) (bt a b) = Int.gcd a b * 1 := by rw [← e, Nat.mul_one]
  have := Nat.eq_of_mul_eq_mul_left q this
  unfold dv; rw [this]; rfl
/-- one tuple alone for each fraction -/
theorem coprime_eq {a b c d : Int} (hb : 0 < b) (hd : 0 < d) (h1 : dv a b = 1) (h2 : dv c d = 1) (e : a * d = c * b) : a = c ∧ b = d := by
  have g1 : Nat.Coprime b.natAbs a.natAbs := by
    have : Int.gcd a b = 1 := by unfold dv at h1; omega
    unfold Int.gcd at this
    exact Nat.Coprime.symm this
  have g2 : Nat.Coprime d.natAbs c.natAbs := by
    have : Int.gcd c d = 1 := by unfold dv at h2; omega
    unfold Int.gcd at this
    exact Nat.Coprime.symm this
  have en : a.natAbs * d.natAbs = c.natAbs * b.natAbs := by rw [← Int.natAbs_mul, ← Int.natAbs_mul, e]
  have d1 : b.natAbs ∣ d.natAbs := g1.dvd_of_dvd_mul_left ⟨c.natAbs, by rw [en, Nat.mul_comm]⟩
  have d2 : d.natAbs ∣ b.natAbs := g2.dvd_of_dvd_mul_left ⟨a.natAbs, by rw [← en, Nat.mul_comm]⟩
  have eb : b.natAbs = d.natAbs := Nat.dvd_antisymm d1 d2
  have ebd : b = d := by omega
  refine ⟨?_, ebd⟩
  rw [ebd] at e
  exact Int.eq_of_mul_eq_mul_right (by omega) e
theorem tp_uniq {a b x y : Int} (h : b ≠ 0) (hy : 0 < y) (hl : dv x y = 1) (e : a * y = x * b) : tp a b = x ∧ bt a b = y := by
  refine coprime_eq (bt_pos h) hy (low h) hl ?_
  have c := cross (a := a) h
  -- tp*y = x*bt : multiply by b
  have : (tp a b * y) * b = (x * bt a b) * b := by
    calc (tp a b * y) * b = (tp a b * b) * y := by rw [Int.mul_assoc, Int.mul_comm y b, ← Int.mul_assoc]
      _ = (a * bt a b) * y := by rw [c]
      _ = (a * y) * bt a b := by rw [Int.mul_assoc, Int.mul_comm (bt a b) y, ← Int.mul_assoc]
      _ = (x * b) * bt a b := by rw [e]
      _ = (x * bt a b) * b := by rw [Int.mul_assoc, Int.mul_comm b, ← Int.mul_assoc]
  exact Int.eq_of_mul_eq_mul_right h this
/-- sizes -/
theorem natAbs_fdiv_le (a s : Int) (k : Int) (e : s * k = a) (hs : s ≠ 0) : k.natAbs ≤ a.natAbs := by
  have : a.natAbs = s.natAbs * k.natAbs := by rw [← e, Int.natAbs_mul]
  rw [this]
  exact Nat.le_mul_of_pos_left _ (by omega)
theorem tp_le {a b : Int} (h : b ≠ 0) : (tp a b).natAbs ≤ a.natAbs := natAbs_fdiv_le a _ _ (tp_mul h) (sg_ne h)
theorem bt_le {a b : Int} (h : b ≠ 0) : (bt a b).natAbs ≤ b.natAbs := natAbs_fdiv_le b _ _ (bt_mul h) (sg_ne h)

/-- fractions added and multiplied -/
theorem same_cross {a b c d : Int} (hb : b ≠ 0) (hd : d ≠ 0) (e : a * d = c * b) : tp a b = tp c d ∧ bt a b = bt c d := by
  refine tp_uniq hb (bt_pos hd) (low hd) ?_
  have h := cross (a := c) hd
  have : (a * bt c d) * d = (tp c d * b) * d := by
    calc (a * bt c d) * d = (a * d) * bt c d := by rw [Int.mul_assoc, Int.mul_comm (bt c d) d, ← Int.mul_assoc]
      _ = (c * b) * bt c d := by rw [e]
      _ = (c * bt c d) * b := by rw [Int.mul_assoc, Int.mul_comm b, ← Int.mul_assoc]
      _ = (tp c d * d) * b := by rw [h]
      _ = (tp c d * b) * d := by rw [Int.mul_assoc, Int.mul_comm d b, ← Int.mul_assoc]
  exact Int.eq_of_mul_eq_mul_right hd this
theorem lo_self {x y : Int} (hy : 0 < y) (hl : dv x y = 1) : tp x y = x ∧ bt x y = y := tp_uniq (by omega) hy hl rfl
theorem ne_mul {a b : Int} (ha : a ≠ 0) (hb : b ≠ 0) : a * b ≠ 0 := Int.mul_ne_zero ha hb
/- over letters: x = (a, b), y = (c, d), z = (e, f); T/B the sum's or product's top and bottom -/
theorem plus_assoc {a b c d e f T B T' B' : Int} (hb : b ≠ 0) (hd : d ≠ 0) (hf : f ≠ 0) (hB : B ≠ 0) (hB' : B' ≠ 0)
    (h1 : T * (b * d) = (a * d + c * b) * B) (h2 : T' * (d * f) = (c * f + e * d) * B') :
    tp (T * f + e * B) (B * f) = tp (a * B' + T' * b) (b * B') ∧ bt (T * f + e * B) (B * f) = bt (a * B' + T' * b) (b * B') := by
  refine same_cross (ne_mul hB hf) (ne_mul hb hB') ?_
  have k : ((T * f + e * B) * (b * B')) * ((b * d) * (d * f)) = ((a * B' + T' * b) * (B * f)) * ((b * d) * (d * f)) := by
    grind
  exact Int.eq_of_mul_eq_mul_right (ne_mul (ne_mul hb hd) (ne_mul hd hf)) k
theorem times_assoc {a b c d e f T B T' B' : Int} (hb : b ≠ 0) (hd : d ≠ 0) (hf : f ≠ 0) (hB : B ≠ 0) (hB' : B' ≠ 0)
    (h1 : T * (b * d) = (a * c) * B) (h2 : T' * (d * f) = (c * e) * B') :
    tp (T * e) (B * f) = tp (a * T') (b * B') ∧ bt (T * e) (B * f) = bt (a * T') (b * B') := by
  refine same_cross (ne_mul hB hf) (ne_mul hb hB') ?_
  have k : ((T * e) * (b * B')) * ((b * d) * (d * f)) = ((a * T') * (B * f)) * ((b * d) * (d * f)) := by
    grind
  exact Int.eq_of_mul_eq_mul_right (ne_mul (ne_mul hb hd) (ne_mul hd hf)) k
theorem distrib {a b c d e f T B P U R V : Int} (hb : b ≠ 0) (hd : d ≠ 0) (hf : f ≠ 0) (hB : B ≠ 0) (hU : U ≠ 0) (hV : V ≠ 0)
    (h1 : T * (d * f) = (c * f + e * d) * B) (h2 : P * (b * d) = (a * c) * U) (h3 : R * (b * f) = (a * e) * V) :
    tp (a * T) (b * B) = tp (P * V + R * U) (U * V) ∧ bt (a * T) (b * B) = bt (P * V + R * U) (U * V) := by
  refine same_cross (ne_mul hb hB) (ne_mul hU hV) ?_
  have k : ((a * T) * (U * V)) * ((d * f) * ((b * d) * (b * f))) = ((P * V + R * U) * (b * B)) * ((d * f) * ((b * d) * (b * f))) := by
    grind
  exact Int.eq_of_mul_eq_mul_right (ne_mul (ne_mul hd hf) (ne_mul (ne_mul hb hd) (ne_mul hb hf))) k
theorem plus_comm {a b c d : Int} : tp (a * d + c * b) (b * d) = tp (c * b + a * d) (d * b) ∧ bt (a * d + c * b) (b * d) = bt (c * b + a * d) (d * b) := by
  rw [Int.add_comm, Int.mul_comm b d]; exact ⟨rfl, rfl⟩
theorem times_comm {a b c d : Int} : tp (a * c) (b * d) = tp (c * a) (d * b) ∧ bt (a * c) (b * d) = bt (c * a) (d * b) := by
  rw [Int.mul_comm a c, Int.mul_comm b d]; exact ⟨rfl, rfl⟩
theorem plus_zero {a b : Int} (hb : 0 < b) (hl : dv a b = 1) : tp (a * 1 + 0 * b) (b * 1) = a ∧ bt (a * 1 + 0 * b) (b * 1) = b := by
  have e1 : a * 1 + 0 * b = a := by omega
  have e2 : b * 1 = b := by omega
  rw [e1, e2]; exact lo_self hb hl
theorem zero_plus {a b : Int} (hb : 0 < b) (hl : dv a b = 1) : tp (0 * b + a * 1) (1 * b) = a ∧ bt (0 * b + a * 1) (1 * b) = b := by
  have e1 : 0 * b + a * 1 = a := by omega
  have e2 : 1 * b = b := by omega
  rw [e1, e2]; exact lo_self hb hl
theorem times_one {a b : Int} (hb : 0 < b) (hl : dv a b = 1) : tp (a * 1) (b * 1) = a ∧ bt (a * 1) (b * 1) = b := by
  rw [Int.mul_one, Int.mul_one]; exact lo_self hb hl
theorem one_times {a b : Int} (hb : 0 < b) (hl : dv a b = 1) : tp (1 * a) (1 * b) = a ∧ bt (1 * a) (1 * b) = b := by
  rw [Int.one_mul, Int.one_mul]; exact lo_self hb hl
theorem dv01 : dv 0 1 = 1 := by unfold dv; decide
theorem dv11 : dv 1 1 = 1 := by unfold dv; decide
theorem times_zero {a b : Int} (hb : 0 < b) : tp (a * 0) (b * 1) = 0 ∧ bt (a * 0) (b * 1) = 1 :=
  tp_uniq (by omega) (by omega) dv01 (by omega)
theorem zero_times {a b : Int} (hb : 0 < b) : tp (0 * a) (1 * b) = 0 ∧ bt (0 * a) (1 * b) = 1 :=
  tp_uniq (by omega) (by omega) dv01 (by omega)
theorem plus_minus {a b : Int} (hb : 0 < b) : tp (a * b + -a * b) (b * b) = 0 ∧ bt (a * b + -a * b) (b * b) = 1 := by
  refine tp_uniq (ne_mul (by omega) (by omega)) (by omega) dv01 ?_
  rw [Int.neg_mul]; omega
theorem dv_neg (a b : Int) : dv (-a) b = dv a b := by unfold dv; rw [Int.neg_gcd]
theorem dv_comm (a b : Int) : dv a b = dv b a := by unfold dv; rw [Int.gcd_comm]
/-- the inverse: fraction (b, a) -/
theorem times_inv {a b : Int} (ha : a ≠ 0) (hb : b ≠ 0) : tp (a * tp b a) (b * bt b a) = 1 ∧ bt (a * tp b a) (b * bt b a) = 1 := by
  refine tp_uniq (ne_mul hb (Int.ne_of_gt (bt_pos ha))) (by omega) (by unfold dv; decide) ?_
  have := cross (a := b) ha
  grind
theorem inv_inv {a b : Int} (ha : a ≠ 0) (hb : 0 < b) (hl : dv a b = 1) : tp (bt b a) (tp b a) = a ∧ bt (bt b a) (tp b a) = b := by
  have c := cross (a := b) ha
  have p := bt_pos (a := b) ha
  have t0 : tp b a ≠ 0 := by
    intro e
    rw [e] at c
    have := Int.mul_pos hb p
    omega
  refine tp_uniq t0 hb hl ?_
  grind

open PySem
@[irreducible] def num (c : Int) : Int := if c.fmod 3 = 0 then (c.fdiv 3).fmod 19 - 9 else if c.fmod 3 = 1 then (c.fdiv 3).fmod 2000003 - 1000001 else (c.fdiv 3).fmod 1999999999999999999999999999999 - 999999999999999999999999999999
theorem num_a {c : Int} (h : c.fmod 3 = 0) : (c.fdiv 3).fmod 19 - 9 = num c := by unfold num; rw [if_pos h]
theorem num_b {c : Int} (h : ¬ c.fmod 3 = 0) (h1 : c.fmod 3 = 1) : (c.fdiv 3).fmod 2000003 - 1000001 = num c := by unfold num; rw [if_neg h, if_pos h1]
theorem num_c {c m k : Int} (h : ¬ c.fmod 3 = 0) (h1 : ¬ c.fmod 3 = 1) (hm : m = 1999999999999999999999999999999) (hk : k = 999999999999999999999999999999) : (c.fdiv 3).fmod m - k = num c := by unfold num; rw [if_neg h, if_neg h1, hm, hk]
theorem num_in (c : Int) : -1000000000000000000000000000000 < num c ∧ num c < 1000000000000000000000000000000 := by
  have h (a m : Int) (hm : 0 < m) : 0 ≤ a.fmod m ∧ a.fmod m < m := ⟨Int.fmod_nonneg_of_pos a hm, Int.fmod_lt_of_pos a hm⟩
  have h1 := h (c.fdiv 3) 19 (by decide)
  have h2 := h (c.fdiv 3) 2000003 (by decide)
  have h3 := h (c.fdiv 3) 1999999999999999999999999999999 (by decide)
  unfold num; split
  · omega
  · split <;> omega
theorem abs_start (a b : Int) : dv (if a < 0 then -a else a) (if b < 0 then -b else b) = dv a b := by
  have e : ∀ x : Int, (if x < 0 then -x else x) = (x.natAbs : Int) := fun x => by split <;> omega
  rw [e, e, dv_abs]
theorem start1 (a b : Int) : 0 ≤ (if a < 0 then -a else a) ∧ 0 ≤ (if b < 0 then -b else b) ∧ dv (if a < 0 then -a else a) (if b < 0 then -b else b) = dv a b :=
  ⟨by split <;> omega, by split <;> omega, abs_start a b⟩
theorem out2 {a b x y : Int} (h : dv x y = dv a b) (hy : y = 0) : (if x < 0 then -x else x) = dv a b := by
  rw [← l_out h hy]; split <;> omega

structure S1 (x : Int) : Prop where
  lo : -10000000000000000000000000000000 ≤ x
  hi : x ≤ 10000000000000000000000000000000
structure S2 (x : Int) : Prop where
  lo : -1000000000000000000000000000000000000000000000000000000000000000 ≤ x
  hi : x ≤ 1000000000000000000000000000000000000000000000000000000000000000
structure Po (x : Int) : Prop where
  lo : 0 < x
theorem num_sm (c : Int) : S1 (num c) := ⟨by have := num_in c; omega, by have := num_in c; omega⟩
theorem S1.two {x : Int} (h : S1 x) : S2 x := ⟨by have := h.lo; omega, by have := h.hi; omega⟩
theorem S1.max_abs {n : Int} (h : S1 n) : S1 (if (if n < 0 then -n else n) > 1 then (if n < 0 then -n else n) else 1) := ⟨by have := h.lo; have := h.hi; omega, by have := h.lo; have := h.hi; omega⟩
theorem Po.max_abs {n : Int} : Po (if (if n < 0 then -n else n) > 1 then (if n < 0 then -n else n) else 1) := ⟨by omega⟩
theorem S1.zero : S1 0 := ⟨by decide, by decide⟩
theorem S1.one : S1 1 := ⟨by decide, by decide⟩
theorem Po.one : Po 1 := ⟨by decide⟩
theorem S2.lt {y : Int} (h : S2 y) : y.natAbs < 2 ^ 210 := by
  have : (2 : Nat) ^ 210 > 1000000000000000000000000000000000000000000000000000000000000000 := by decide
  have := h.lo
  have := h.hi
  omega
theorem S2.log {y : Int} (h : S2 y) : y.natAbs.log2 < 9000 := by
  by_cases e : y.natAbs = 0
  · rw [e]; decide
  · rw [Nat.log2_lt e]
    exact Nat.lt_of_lt_of_le h.lt (Nat.pow_le_pow_right (by decide) (by decide))
theorem S2.bits {y : Int} (h : S2 y) : Builtin.Int.intBits y ≤ 2 ^ 20 :=
  intBits_le_iff.mpr (Nat.lt_of_lt_of_le h.lt (Nat.pow_le_pow_right (by decide) (by decide)))
theorem mul_in {x y : Int} (hx : S1 x) (hy : S1 y) : -100000000000000000000000000000000000000000000000000000000000000 ≤ x * y ∧ x * y ≤ 100000000000000000000000000000000000000000000000000000000000000 := by
  have x0 := hx.lo
  have x1 := hx.hi
  have y0 := hy.lo
  have y1 := hy.hi
  have h : (x * y).natAbs = x.natAbs * y.natAbs := Int.natAbs_mul x y
  have k : x.natAbs * y.natAbs ≤ 10000000000000000000000000000000 * 10000000000000000000000000000000 := Nat.mul_le_mul (by omega) (by omega)
  omega
theorem S2.mul {x y : Int} (hx : S1 x) (hy : S1 y) : S2 (x * y) := ⟨by have := mul_in hx hy; omega, by have := mul_in hx hy; omega⟩
theorem S2.sum {x y c d : Int} (hx : S1 x) (hy : S1 y) (hc : S1 c) (hd : S1 d) : S2 (x * y + c * d) := ⟨by have := mul_in hx hy; have := mul_in hc hd; omega, by have := mul_in hx hy; have := mul_in hc hd; omega⟩
theorem Po.mul {x y : Int} (hx : Po x) (hy : Po y) : Po (x * y) := ⟨Int.mul_pos hx.lo hy.lo⟩
theorem Po.ne {x : Int} (h : Po x) : x ≠ 0 := by have := h.lo; omega
theorem Po.sg {a b : Int} (h : Po b) : dv a b = sg a b := (sg_pos (by have := h.lo; omega)).symm
theorem S1.tp {a b : Int} (h : S1 a) (p : Po b) : S1 (tp a b) := by
  have l := tp_le (a := a) p.ne
  have := h.lo
  have := h.hi
  exact ⟨by omega, by omega⟩
theorem S2.tp {a b : Int} (h : S2 a) (p : Po b) : S2 (tp a b) := by
  have l := tp_le (a := a) p.ne
  have := h.lo
  have := h.hi
  exact ⟨by omega, by omega⟩
theorem S1.bt {a b : Int} (h : S1 b) (p : Po b) : S1 (bt a b) := by
  have l := bt_le (a := a) p.ne
  have := h.lo
  have := h.hi
  exact ⟨by omega, by omega⟩
theorem S2.bt {a b : Int} (h : S2 b) (p : Po b) : S2 (bt a b) := by
  have l := bt_le (a := a) p.ne
  have := h.lo
  have := h.hi
  exact ⟨by omega, by omega⟩
theorem Po.bt {a b : Int} (p : Po b) : Po (bt a b) := ⟨bt_pos p.ne⟩
theorem S2.dv {a b : Int} (h : S2 b) (p : Po b) : S2 (dv a b) := by
  have := dv_le a b p.ne
  have := dv_nonneg a b
  have := h.lo
  have := h.hi
  exact ⟨by omega, by omega⟩
/-- a weight: small enough, in lowest terms -/
structure Low (a b : Int) : Prop where
  one : dv a b = 1
theorem lz {a b : Int} (p : Po b) (l : Low a b) : tp (a * 1 + 0 * b) (b * 1) = a ∧ bt (a * 1 + 0 * b) (b * 1) = b := plus_zero p.lo l.one
theorem zl {a b : Int} (p : Po b) (l : Low a b) : tp (0 * b + a * 1) (1 * b) = a ∧ bt (0 * b + a * 1) (1 * b) = b := zero_plus p.lo l.one
theorem lo1 {a b : Int} (p : Po b) (l : Low a b) : tp (a * 1) (b * 1) = a ∧ bt (a * 1) (b * 1) = b := times_one p.lo l.one
theorem ol {a b : Int} (p : Po b) (l : Low a b) : tp (1 * a) (1 * b) = a ∧ bt (1 * a) (1 * b) = b := one_times p.lo l.one
theorem lt0 {a b : Int} (p : Po b) : tp (a * 0) (b * 1) = 0 ∧ bt (a * 0) (b * 1) = 1 := times_zero p.lo
theorem cp {a b c d : Int} (_ : Low (tp (c * b + a * d) (d * b)) (bt (c * b + a * d) (d * b))) : tp (a * d + c * b) (b * d) = tp (c * b + a * d) (d * b) ∧ bt (a * d + c * b) (b * d) = bt (c * b + a * d) (d * b) := plus_comm
theorem ct {a b c d : Int} (_ : Low (tp (c * a) (d * b)) (bt (c * a) (d * b))) : tp (a * c) (b * d) = tp (c * a) (d * b) ∧ bt (a * c) (b * d) = bt (c * a) (d * b) := times_comm
end Mine
namespace Mine
/-- a prime, as trial tells it -/
def Pr (p : Nat) : Prop := 2 ≤ p ∧ ∀ d, 2 ≤ d → d * d ≤ p → ¬ p % d = 0
theorem Pr.div {p d : Nat} (h : Pr p) (hd : d ∣ p) : d = 1 ∨ d = p := by
  obtain ⟨k, hk⟩ := hd
  have p2 := h.1
  rcases (by omega : d = 0 ∨ d = 1 ∨ 2 ≤ d) with e | e | e
  · rw [e, Nat.zero_mul] at hk; omega
  · exact .inl e
  · rcases (by omega : k = 0 ∨ k = 1 ∨ 2 ≤ k) with f | f | f
    · rw [f, Nat.mul_zero] at hk; omega
    · rw [f, Nat.mul_one] at hk; exact .inr hk.symm
    · exfalso
      rcases Nat.le_total d k with g | g
      · have : d * d ≤ p := by rw [hk]; exact Nat.mul_le_mul_left d g
        exact h.2 d e this (by rw [hk]; exact Nat.mul_mod_right d k)
      · have : k * k ≤ p := by rw [hk]; exact Nat.mul_le_mul_right k g
        exact h.2 k f this (by rw [hk]; exact Nat.mul_mod_left d k)
theorem Pr.cop {p a : Nat} (h : Pr p) (ha : ¬ p ∣ a) : Nat.Coprime p a := by
  have d1 := Nat.gcd_dvd_left p a
  have d2 := Nat.gcd_dvd_right p a
  rcases h.div d1 with e | e
  · exact e
  · rw [e] at d2; exact absurd d2 ha
theorem Pr.mul {p a b : Nat} (h : Pr p) (hd : p ∣ a * b) : p ∣ a ∨ p ∣ b := by
  by_cases c : p ∣ a
  · exact .inl c
  · exact .inr ((h.cop c).dvd_of_dvd_mul_left hd)
theorem small {p a : Nat} (h0 : 0 < a) (h1 : a < p) : ¬ p ∣ a := fun h => by
  have := Nat.le_of_dvd h0 h
  omega
/-- lists that are the numbers below n -/
theorem hole : ∀ (n : Nat) (l : List Nat), l.Nodup → (∀ a ∈ l, a < n) → l.length ≤ n
  | 0, l, _, h => by
    cases l with
    | nil => exact Nat.le_refl 0
    | cons a r => exact absurd (h a (List.mem_cons_self ..)) (by omega)
  | n + 1, l, nd, h => by
    by_cases c : n ∈ l
    · have e := List.length_erase_of_mem c
      have := hole n (l.erase n) (nd.erase n) (fun a ha => by
        have m := (List.Nodup.mem_erase_iff nd).mp ha
        have := h a m.2
        have := m.1
        omega)
      omega
    · have := hole n l nd (fun a ha => by
        have := h a ha
        have : a ≠ n := fun e => c (e ▸ ha)
        omega)
      omega
theorem perm : ∀ (n : Nat) (l : List Nat), l.Nodup → (∀ a ∈ l, a < n) → l.length = n → l.Perm (List.range n)
  | 0, l, _, _, e => by
    have : l = [] := List.length_eq_zero_iff.mp e
    rw [this]; exact List.Perm.refl _
  | n + 1, l, nd, h, e => by
    by_cases c : n ∈ l
    · have e' := List.length_erase_of_mem c
      have i := perm n (l.erase n) (nd.erase n) (fun a ha => by
        have m := (List.Nodup.mem_erase_iff nd).mp ha
        have := h a m.2
        have := m.1
        omega) (by omega)
      have q := List.perm_cons_erase c
      refine q.trans ?_
      rw [List.range_succ]
      exact (i.cons n).trans (List.perm_append_singleton n (List.range n)).symm
    · have := hole n l nd (fun a ha => by
        have := h a ha
        have : a ≠ n := fun e => c (e ▸ ha)
        omega)
      omega
def pd : List Nat → Nat
  | [] => 1
  | a :: r => a * pd r
theorem pd_perm {l m : List Nat} (h : l.Perm m) : pd l = pd m := by
  induction h with
  | nil => rfl
  | cons a _ ih => show a * _ = a * _; rw [ih]
  | swap a b l => show b * (a * _) = a * (b * _); rw [← Nat.mul_assoc, ← Nat.mul_assoc, Nat.mul_comm b a]
  | trans _ _ i j => exact i.trans j
theorem pd_cop {p : Nat} (h : Pr p) : ∀ (l : List Nat), (∀ a ∈ l, ¬ p ∣ a) → ¬ p ∣ pd l
  | [], _ => fun d => by
    have := Nat.le_of_dvd (by decide) d
    have := h.1
    have e : pd [] = 1 := rfl
    omega
  | a :: r, g => fun d => by
    rcases h.mul d with e | e
    · exact g a (List.mem_cons_self ..) e
    · exact pd_cop h r (fun b hb => g b (List.mem_cons_of_mem _ hb)) e
theorem pd_mod (p x : Nat) : ∀ (l : List Nat), pd (l.map fun i => x * i % p) % p = x ^ l.length * pd l % p
  | [] => by simp [pd]
  | a :: r => by
    have ih := pd_mod p x r
    show (x * a % p) * pd (r.map fun i => x * i % p) % p = x ^ (r.length + 1) * (a * pd r) % p
    rw [Nat.mul_mod, Nat.mod_mod, ih, ← Nat.mul_mod, Nat.pow_succ]
    congr 1
    grind
theorem fermat {p x : Nat} (h : Pr p) (hx : ¬ p ∣ x) : x ^ (p - 1) % p = 1 := by
  have p2 := h.1
  let f : Nat → Nat := fun i => x * (i + 1) % p - 1
  have pos : ∀ i, i < p - 1 → 0 < x * (i + 1) % p := fun i hi => by
    rcases Nat.eq_zero_or_pos (x * (i + 1) % p) with e | e
    · rcases h.mul (Nat.dvd_of_mod_eq_zero e) with d | d
      · exact absurd d hx
      · exact absurd d (small (by omega) (by omega))
    · exact e
  have lt : ∀ i, x * (i + 1) % p < p := fun i => Nat.mod_lt _ (by omega)
  have inj : ∀ i j, i < p - 1 → j < p - 1 → i < j → x * (i + 1) % p ≠ x * (j + 1) % p := fun i j hi hj ij e => by
    have d : p ∣ x * (j + 1) - x * (i + 1) := by
      apply Nat.dvd_of_mod_eq_zero
      exact Nat.sub_mod_eq_zero_of_mod_eq e.symm
    rw [← Nat.mul_sub] at d
    rcases h.mul d with d | d
    · exact hx d
    · exact small (by omega) (by omega) d
  have nd : ((List.range (p - 1)).map f).Nodup := by
    rw [List.nodup_iff_pairwise_ne, List.pairwise_map]
    refine List.Pairwise.imp_of_mem ?_ (List.pairwise_lt_range (n := p - 1))
    intro a b ha hb ab e
    have ha := List.mem_range.mp ha
    have hb := List.mem_range.mp hb
    have e : x * (a + 1) % p - 1 = x * (b + 1) % p - 1 := e
    have := pos a ha
    have := pos b hb
    exact inj a b ha hb ab (by omega)
  have pm := perm (p - 1) ((List.range (p - 1)).map f) nd (fun a ha => by
    obtain ⟨i, hi, e⟩ := List.mem_map.mp ha
    have := pos i (List.mem_range.mp hi)
    have := lt i
    have e : x * (i + 1) % p - 1 = a := e
    omega) (by simp)
  have pm2 := pd_perm (pm.map (· + 1))
  have same : ((List.range (p - 1)).map f).map (· + 1) = ((List.range (p - 1)).map (· + 1)).map (fun i => x * i % p) := by
    rw [List.map_map, List.map_map]
    refine List.map_congr_left fun i hi => ?_
    have := pos i (List.mem_range.mp hi)
    show x * (i + 1) % p - 1 + 1 = x * (i + 1) % p
    omega
  rw [same] at pm2
  have q := pd_mod p x ((List.range (p - 1)).map (· + 1))
  rw [pm2, List.length_map, List.length_range] at q
  generalize hF : pd ((List.range (p - 1)).map (· + 1)) = F at q
  have cF : ¬ p ∣ F := by
    rw [← hF]
    refine pd_cop h _ fun a ha => ?_
    obtain ⟨i, hi, e⟩ := List.mem_map.mp ha
    have := List.mem_range.mp hi
    exact small (by omega) (by omega)
  -- q : F % p = x^(p-1) * F % p
  have d : p ∣ (x ^ (p - 1) - 1) * F := by
    apply Nat.dvd_of_mod_eq_zero
    rw [Nat.sub_mul, Nat.one_mul]
    exact Nat.sub_mod_eq_zero_of_mod_eq q.symm
  have xp : 0 < x ^ (p - 1) := Nat.pow_pos (by
    rcases Nat.eq_zero_or_pos x with e | e
    · exact absurd (e ▸ Nat.dvd_zero p) hx
    · exact e)
  rcases h.mul d with d | d
  · obtain ⟨k, hk⟩ := d
    have e : x ^ (p - 1) = 1 + p * k := by omega
    rw [e, Nat.add_mul_mod_self_left]
    exact Nat.mod_eq_of_lt (by omega)
  · exact absurd d cF
/-! residues, over Int, as the model writes them -/
theorem fe {a p : Int} (hp : 0 < p) : a.fmod p = a % p := Int.fmod_eq_emod_of_nonneg a (Int.le_of_lt hp)
theorem em1 (a b p : Int) : (a % p * b) % p = (a * b) % p := by rw [Int.mul_emod, Int.emod_emod_of_dvd a (Int.dvd_refl p), ← Int.mul_emod]
theorem em2 (a b p : Int) : (a * (b % p)) % p = (a * b) % p := by rw [Int.mul_comm, em1, Int.mul_comm]
theorem en1 (a p : Int) : (-(a % p)) % p = (-a) % p := by
  have := em2 (-1) a p
  rw [Int.neg_one_mul, Int.neg_one_mul] at this
  exact this
theorem r_in {a p : Int} (hp : 0 < p) : 0 ≤ a.fmod p ∧ a.fmod p < p := ⟨Int.fmod_nonneg_of_pos a hp, Int.fmod_lt_of_pos a hp⟩
theorem r_pa {x y z p : Int} (hp : 0 < p) : ((x + y).fmod p + z).fmod p = (x + (y + z).fmod p).fmod p := by
  simp only [fe hp, Int.emod_add_emod, Int.add_emod_emod, Int.add_assoc]
theorem r_ta {x y z p : Int} (hp : 0 < p) : ((x * y).fmod p * z).fmod p = (x * (y * z).fmod p).fmod p := by
  simp only [fe hp, em1, em2, Int.mul_assoc]
theorem r_d {x y z p : Int} (hp : 0 < p) : (x * (y + z).fmod p).fmod p = ((x * y).fmod p + (x * z).fmod p).fmod p := by
  simp only [fe hp, em2, Int.emod_add_emod, Int.add_emod_emod, Int.mul_add]
theorem r_self {x p : Int} (h0 : 0 ≤ x) (h1 : x < p) : x.fmod p = x := by
  rw [fe (by omega)]; exact Int.emod_eq_of_lt h0 h1
theorem r_pm {x p : Int} (hp : 0 < p) : (x + (-x).fmod p).fmod p = 0 := by
  simp only [fe hp, Int.add_emod_emod]; rw [Int.add_right_neg]; exact Int.zero_emod p
theorem r_mm {x p : Int} (h0 : 0 ≤ x) (h1 : x < p) : (-((-x).fmod p)).fmod p = x := by
  have hp : 0 < p := by omega
  simp only [fe hp]
  rw [en1, Int.neg_neg]; exact Int.emod_eq_of_lt h0 h1
/-- the law's look at a residue: it differs by a multiple -/
theorem r_less {x p : Int} (hp : 0 < p) : (x - x.fmod p).fmod p = 0 := by
  simp only [fe hp]
  rw [Int.sub_emod, Int.emod_emod_of_dvd x (Int.dvd_refl p), Int.sub_self]; exact Int.zero_emod p
/-- the inverse -/
def ri (p x : Int) : Int := (x ^ (p.toNat - 2)) % p
theorem pw_nat (x : Int) (h : 0 ≤ x) (k : Nat) : x ^ k = ((x.toNat ^ k : Nat) : Int) := by
  have : (x.toNat : Int) = x := Int.toNat_of_nonneg h
  rw [Int.natCast_pow, this]
theorem ri_in {p x : Int} (hp : 0 < p) : 0 ≤ ri p x ∧ ri p x < p := ⟨Int.emod_nonneg _ (by omega), Int.emod_lt_of_pos _ hp⟩
theorem ri_one {p x : Int} (h : Pr p.toNat) (h0 : 0 < x) (h1 : x < p) : (x * ri p x).fmod p = 1 := by
  have p2 := h.1
  have hp : 0 < p := by omega
  rw [fe hp]
  unfold ri
  rw [em2]
  have e : x * x ^ (p.toNat - 2) = x ^ (p.toNat - 1) := by
    have : p.toNat - 1 = (p.toNat - 2) + 1 := by omega
    rw [this, Int.pow_succ, Int.mul_comm]
  rw [e, pw_nat x (by omega)]
  have f := fermat h (small (p := p.toNat) (a := x.toNat) (by omega) (by omega))
  have : ((x.toNat ^ (p.toNat - 1) % p.toNat : Nat) : Int) = ((1 : Nat) : Int) := by rw [f]
  rw [Int.natCast_emod, Int.toNat_of_nonneg (by omega)] at this
  exact this
theorem ri_pos {p x : Int} (h : Pr p.toNat) (h0 : 0 < x) (h1 : x < p) : 0 < ri p x := by
  have hp : 0 < p := by omega
  have b := ri_in (x := x) hp
  rcases (by omega : ri p x = 0 ∨ 0 < ri p x) with e | e
  · have o := ri_one h h0 h1
    rw [e, Int.mul_zero, r_self (by omega) hp] at o
    omega
  · exact e
theorem ri_ri {p x : Int} (h : Pr p.toNat) (h0 : 0 < x) (h1 : x < p) : ri p (ri p x) = x := by
  have hp : 0 < p := by omega
  have a := ri_one h h0 h1
  have b := ri_in (x := x) hp
  have c := ri_pos h h0 h1
  have d := ri_one h c b.2
  have e := ri_in (x := ri p x) hp
  -- ri (ri x) = (x * ri x) * ri (ri x) = x
  have k1 : (x * (ri p x * ri p (ri p x)).fmod p).fmod p = x := by rw [d, Int.mul_one]; exact r_self (by omega) h1
  have k2 : ((x * ri p x).fmod p * ri p (ri p x)).fmod p = ri p (ri p x) := by rw [a, Int.one_mul]; exact r_self e.1 e.2
  rw [← k2, r_ta hp, k1]
/-- the loop -/
def RInv (p x : Int) (left product square : Int) : Prop := (product * square ^ left.toNat) % p = (x ^ (p.toNat - 2)) % p ∧ (0 ≤ product ∧ product < p)
theorem ri_start {p x : Int} (h : 2 ≤ p) : RInv p x (p - 2) 1 x := by
  refine ⟨?_, by omega, by omega⟩
  have : (p - 2).toNat = p.toNat - 2 := by omega
  rw [this, Int.one_mul]
theorem pw_em (a p : Int) (k : Nat) : ((a % p) ^ k) % p = (a ^ k) % p := by
  induction k with
  | zero => rw [Int.pow_zero, Int.pow_zero]
  | succ k ih => rw [Int.pow_succ, Int.pow_succ, em2, Int.mul_comm, ← em2, ih, em2, Int.mul_comm]
theorem ri_odd {p x l a s : Int} (hp : 0 < p) (h : RInv p x l a s) (h0 : 0 < l) (o : l % 2 = 1) : RInv p x (l.fdiv 2) ((a * s).fmod p) ((s * s).fmod p) := by
  have hl : l.toNat = 2 * (l.fdiv 2).toNat + 1 := by
    rw [Int.fdiv_eq_ediv_of_nonneg l (by decide)]; omega
  refine ⟨?_, r_in hp⟩
  rw [← h.1, hl, fe hp, fe hp, em1]
  generalize (l.fdiv 2).toNat = k
  have e : (a * s) * ((s * s) % p) ^ k % p = (a * s) * (s * s) ^ k % p := by
    rw [← em2, pw_em, em2]
  rw [e, Int.pow_succ, Int.pow_mul]
  have : s ^ 2 = s * s := by rw [Int.pow_succ, Int.pow_succ, Int.pow_zero, Int.one_mul]
  rw [this]
  congr 1
  grind
theorem ri_even {p x l a s : Int} (hp : 0 < p) (h : RInv p x l a s) (h0 : 0 < l) (o : l % 2 ≠ 1) : RInv p x (l.fdiv 2) a ((s * s).fmod p) := by
  have hl : l.toNat = 2 * (l.fdiv 2).toNat := by
    rw [Int.fdiv_eq_ediv_of_nonneg l (by decide)]; omega
  refine ⟨?_, h.2⟩
  rw [← h.1, hl, fe hp]
  generalize (l.fdiv 2).toNat = k
  rw [← em2, pw_em, em2, Int.pow_mul]
  have : s ^ 2 = s * s := by rw [Int.pow_succ, Int.pow_succ, Int.pow_zero, Int.one_mul]
  rw [this]
theorem ri_out {p x l a s : Int} (h : RInv p x l a s) (h0 : ¬ 0 < l) : a = ri p x := by
  have : l.toNat = 0 := by omega
  have e := h.1
  rw [this, Int.pow_zero, Int.mul_one, Int.emod_eq_of_lt h.2.1 h.2.2] at e
  exact e
/-- primes by trial -/
def PI (n : Int) : Prop := 2 ≤ n ∧ ∀ d : Int, 2 ≤ d → d * d ≤ n → ¬ n.fmod d = 0
theorem PI.nat {n : Int} (h : PI n) : Pr n.toNat := by
  refine ⟨by have := h.1; omega, fun d hd hdd e => ?_⟩
  have n2 := h.1
  have hn : (n.toNat : Int) = n := Int.toNat_of_nonneg (by omega)
  refine h.2 (d : Int) (by omega) ?_ ?_
  · have : ((d * d : Nat) : Int) ≤ (n.toNat : Int) := by omega
    rw [hn] at this
    rw [← Int.natCast_mul]; exact this
  · rw [fe (by omega), ← hn, ← Int.natCast_emod, e]; rfl
noncomputable def isP (n : Int) : Bool := @decide (PI n) (Classical.propDecidable _)
theorem isP_true {n : Int} (h : isP n = true) : PI n := @of_decide_eq_true _ (Classical.propDecidable _) h
theorem isP_of {n : Int} (h : PI n) : isP n = true := @decide_eq_true _ (Classical.propDecidable _) h
theorem isP_false {n : Int} (h : ¬ PI n) : isP n = false := @decide_eq_false _ (Classical.propDecidable _) h
theorem sq_lt {d f n : Int} (hd : 2 ≤ d) (hf : 2 ≤ f) (h : d * d ≤ n) (g : ¬ f * f ≤ n) : d < f := by
  rcases Int.lt_or_le d f with e | e
  · exact e
  · have : f * f ≤ d * d := Int.mul_le_mul e e (by omega) (by omega)
    omega
theorem sq_le {f n : Int} (hf : 2 ≤ f) (h : f * f ≤ n) : f + 1 ≤ n := by
  have : 2 * f ≤ f * f := Int.mul_le_mul_of_nonneg_right hf (by omega)
  omega
theorem p_small {n : Int} (h : n < 2) : false = isP n := by rw [isP_false]; intro c; have := c.1; omega
theorem p_hit {n f : Int} (hf : 2 ≤ f) (h : f * f ≤ n) (e : n.fmod f = 0) : false = isP n := by
  rw [isP_false]; exact fun c => c.2 f hf h e
theorem p_out {n f : Int} (n2 : 2 ≤ n) (hf : 2 ≤ f) (g : ¬ f * f ≤ n) (h : ∀ d : Int, 2 ≤ d → d < f → ¬ n.fmod d = 0) : true = isP n := by
  rw [isP_of]; exact ⟨n2, fun d hd hdd => h d hd (sq_lt hd hf hdd g)⟩
theorem p_turn {n f : Int} (h : ∀ d : Int, 2 ≤ d → d < f → ¬ n.fmod d = 0) (e : ¬ n.fmod f = 0) : ∀ d : Int, 2 ≤ d → d < f + 1 → ¬ n.fmod d = 0 := by
  intro d hd h1
  rcases (by omega : d < f ∨ d = f) with c | c
  · exact h d hd c
  · rw [c]; exact e
theorem p_check (n k : Nat) (h2 : 2 ≤ n) (hk : n < k * k) (h : (List.range k).all (fun d => d < 2 || n % d != 0) = true) : isP (n : Int) = true := by
  refine isP_of ⟨by omega, fun d hd hdd e => ?_⟩
  have hk2 : ¬ (k : Int) * (k : Int) ≤ (n : Int) := by
    have : ((n : Nat) : Int) < ((k * k : Nat) : Int) := by omega
    rw [Int.natCast_mul] at this; omega
  have kk : 2 ≤ (k : Int) := by
    rcases (by omega : k = 0 ∨ k = 1 ∨ 2 ≤ k) with c | c | c
    · subst c; omega
    · subst c; omega
    · omega
  have lt := sq_lt hd kk hdd hk2
  have dn : (d.toNat : Int) = d := Int.toNat_of_nonneg (by omega)
  have := List.all_eq_true.mp h d.toNat (List.mem_range.mpr (by omega))
  rw [← dn, fe (by omega), ← Int.natCast_emod] at e
  have e' : n % d.toNat = 0 := by omega
  simp [e'] at this
  omega
theorem p907 : isP 907 = true := p_check 907 31 (by decide) (by decide) (by decide +kernel)
theorem p999983 : isP 999983 = true := p_check 999983 1000 (by decide) (by decide) (by decide +kernel)
theorem p65537 : isP 65537 = true := p_check 65537 257 (by decide) (by decide) (by decide +kernel)
theorem p2 : isP 2 = true := p_check 2 2 (by decide) (by decide) (by decide +kernel)
theorem p3 : isP 3 = true := p_check 3 2 (by decide) (by decide) (by decide +kernel)
theorem p5 : isP 5 = true := p_check 5 3 (by decide) (by decide) (by decide +kernel)
theorem p7 : isP 7 = true := p_check 7 3 (by decide) (by decide) (by decide +kernel)
theorem p11 : isP 11 = true := p_check 11 4 (by decide) (by decide) (by decide +kernel)
theorem p13 : isP 13 = true := p_check 13 4 (by decide) (by decide) (by decide +kernel)
theorem p101 : isP 101 = true := p_check 101 11 (by decide) (by decide) (by decide +kernel)
end Mine
/-! The four kinds of weights as semirings. -/
namespace Mine
open PySem PySem.SeqAt
structure SR where
  W : Type
  add : W → W → W
  mul : W → W → W
  zero : W
  one : W
  add_comm : ∀ x y, add x y = add y x
  add_assoc : ∀ x y z, add (add x y) z = add x (add y z)
  mul_comm : ∀ x y, mul x y = mul y x
  mul_assoc : ∀ x y z, mul (mul x y) z = mul x (mul y z)
  distrib : ∀ x y z, mul x (add y z) = add (mul x y) (mul x z)
  add_zero : ∀ x, add x zero = x
  mul_one : ∀ x, mul x one = x
  mul_zero : ∀ x, mul x zero = zero
  zo : zero ≠ one
  sz : Nat → W → Prop
  sz_mono : ∀ m n x, m ≤ n → sz m x → sz n x
  sz_add : ∀ m n x y, sz m x → sz n y → sz (m + n + 1) (add x y)
  sz_mul : ∀ m n x y, sz m x → sz n y → sz (m + n) (mul x y)
  sz_zero : sz 0 zero
  sz_one : sz 0 one
  data : W → PyData
  sh : ∀ x, shaped (data x) = true
  nm : ∀ x y, noMix (data x) (data y) = true
  eq : ∀ x, PySem.Spec.same (data x) (data x) = true
  ne : ∀ x y, x ≠ y → PySem.Spec.same (data x) (data y) = false
structure Fr where
  t : Int
  b : Int
  p : 0 < b
  l : dv t b = 1
theorem Fr.eq_of {x y : Fr} (h1 : x.t = y.t) (h2 : x.b = y.b) : x = y := by
  cases x; cases y; cases h1; cases h2; rfl
theorem Fr.nb (x : Fr) : x.b ≠ 0 := by have := x.p; omega
def Fr.of (a b : Int) (h : 0 < b) : Fr := ⟨tp a b, bt a b, bt_pos (by omega), low (by omega)⟩
theorem Fr.of_cross (a b : Int) (h : 0 < b) : (Fr.of a b h).t * b = a * (Fr.of a b h).b := cross (by omega)
def Fr.add (x y : Fr) : Fr := Fr.of (x.t * y.b + y.t * x.b) (x.b * y.b) (Int.mul_pos x.p y.p)
def Fr.mul (x y : Fr) : Fr := Fr.of (x.t * y.t) (x.b * y.b) (Int.mul_pos x.p y.p)
def Fr.zero : Fr := ⟨0, 1, by decide, dv01⟩
def Fr.one : Fr := ⟨1, 1, by decide, dv11⟩
def Fr.sz (n : Nat) (x : Fr) : Prop := x.t.natAbs ≤ 2 ^ n ∧ x.b.natAbs ≤ 2 ^ n
theorem pw_add (m n : Nat) : (2 : Nat) ^ (m + n) = 2 ^ m * 2 ^ n := Nat.pow_add 2 m n
theorem mul_sz {a b : Int} {m n : Nat} (h1 : a.natAbs ≤ 2 ^ m) (h2 : b.natAbs ≤ 2 ^ n) : (a * b).natAbs ≤ 2 ^ (m + n) := by
  rw [Int.natAbs_mul, pw_add]; exact Nat.mul_le_mul h1 h2
theorem sum_sz {a b c d : Int} {m n : Nat} (h1 : a.natAbs ≤ 2 ^ m) (h2 : b.natAbs ≤ 2 ^ n) (h3 : c.natAbs ≤ 2 ^ n) (h4 : d.natAbs ≤ 2 ^ m) : (a * b + c * d).natAbs ≤ 2 ^ (m + n + 1) := by
  have k1 := mul_sz h1 h2
  have k2 := mul_sz h3 h4
  rw [Nat.add_comm n m] at k2
  have k3 : (a * b + c * d).natAbs ≤ (a * b).natAbs + (c * d).natAbs := Int.natAbs_add_le _ _
  have k4 : (2 : Nat) ^ (m + n + 1) = 2 ^ (m + n) * 2 := Nat.pow_succ ..
  omega
theorem of_sz {a b : Int} {h : 0 < b} {m : Nat} (h1 : a.natAbs ≤ 2 ^ m) (h2 : b.natAbs ≤ 2 ^ m) : (Fr.of a b h).sz m :=
  ⟨Nat.le_trans (tp_le (by omega)) h1, Nat.le_trans (bt_le (by omega)) h2⟩
theorem pw_le {m n : Nat} (h : m ≤ n) : (2 : Nat) ^ m ≤ 2 ^ n := Nat.pow_le_pow_right (by decide) h
def frSR : SR where
  W := Fr
  add := Fr.add
  mul := Fr.mul
  zero := Fr.zero
  one := Fr.one
  add_comm x y := Fr.eq_of plus_comm.1 plus_comm.2
  add_assoc x y z :=
    have h := plus_assoc (f := z.b) (e := z.t) x.nb y.nb z.nb (Fr.add x y).nb (Fr.add y z).nb (Fr.of_cross _ _ (Int.mul_pos x.p y.p)) (Fr.of_cross _ _ (Int.mul_pos y.p z.p))
    Fr.eq_of h.1 h.2
  mul_comm x y := Fr.eq_of times_comm.1 times_comm.2
  mul_assoc x y z :=
    have h := times_assoc (f := z.b) (e := z.t) x.nb y.nb z.nb (Fr.mul x y).nb (Fr.mul y z).nb (Fr.of_cross _ _ (Int.mul_pos x.p y.p)) (Fr.of_cross _ _ (Int.mul_pos y.p z.p))
    Fr.eq_of h.1 h.2
  distrib x y z :=
    have h := distrib (a := x.t) (f := z.b) (e := z.t) x.nb y.nb z.nb (Fr.add y z).nb (Fr.mul x y).nb (Fr.mul x z).nb (Fr.of_cross _ _ (Int.mul_pos y.p z.p)) (Fr.of_cross _ _ (Int.mul_pos x.p y.p)) (Fr.of_cross _ _ (Int.mul_pos x.p z.p))
    Fr.eq_of h.1 h.2
  add_zero x := Fr.eq_of (plus_zero x.p x.l).1 (plus_zero x.p x.l).2
  mul_one x := Fr.eq_of (times_one x.p x.l).1 (times_one x.p x.l).2
  mul_zero x := Fr.eq_of (times_zero x.p).1 (times_zero x.p).2
  zo h := by have : (0 : Int) = 1 := congrArg Fr.t h; omega
  sz := Fr.sz
  sz_mono m n x h s := ⟨Nat.le_trans s.1 (pw_le h), Nat.le_trans s.2 (pw_le h)⟩
  sz_add m n x y h1 h2 := of_sz (sum_sz h1.1 h2.2 h2.1 h1.2) (Nat.le_trans (mul_sz h1.2 h2.2) (pw_le (Nat.le_succ _)))
  sz_mul m n x y h1 h2 := of_sz (mul_sz h1.1 h2.1) (mul_sz h1.2 h2.2)
  sz_zero := ⟨by decide, by decide⟩
  sz_one := ⟨by decide, by decide⟩
  data x := .tuple [.int x.t, .int x.b]
  sh x := rfl
  nm x y := by simp [noMix, noMixAll]
  eq x := by simp [PySem.Spec.same, PySem.Spec.sameAll]
  ne x y h := by
    simp [PySem.Spec.same, PySem.Spec.sameAll]
    intro h1 h2
    exact h (Fr.eq_of h1 h2)
structure Re (p : Int) where
  x : Int
  h0 : 0 ≤ x
  h1 : x < p
theorem Re.eq_of {p : Int} {a b : Re p} (h : a.x = b.x) : a = b := by cases a; cases b; cases h; rfl
def Re.of (p : Int) (hp : 0 < p) (x : Int) : Re p := ⟨x.fmod p, (r_in hp).1, (r_in hp).2⟩
def resSR (p : Int) (hp : 2 ≤ p) : SR where
  W := Re p
  add a b := Re.of p (by omega) (a.x + b.x)
  mul a b := Re.of p (by omega) (a.x * b.x)
  zero := ⟨0, by omega, by omega⟩
  one := ⟨1, by omega, by omega⟩
  add_comm a b := Re.eq_of (by show (a.x + b.x).fmod p = (b.x + a.x).fmod p; rw [Int.add_comm])
  add_assoc a b c := Re.eq_of (r_pa (by omega))
  mul_comm a b := Re.eq_of (by show (a.x * b.x).fmod p = (b.x * a.x).fmod p; rw [Int.mul_comm])
  mul_assoc a b c := Re.eq_of (r_ta (by omega))
  distrib a b c := Re.eq_of (r_d (by omega))
  add_zero a := Re.eq_of (by show (a.x + 0).fmod p = a.x; rw [Int.add_zero]; exact r_self a.h0 a.h1)
  mul_one a := Re.eq_of (by show (a.x * 1).fmod p = a.x; rw [Int.mul_one]; exact r_self a.h0 a.h1)
  mul_zero a := Re.eq_of (by show (a.x * 0).fmod p = 0; rw [Int.mul_zero]; exact r_self (by omega) (by omega))
  zo h := by have : (0 : Int) = 1 := congrArg Re.x h; omega
  sz _ _ := True
  sz_mono _ _ _ _ _ := trivial
  sz_add _ _ _ _ _ _ := trivial
  sz_mul _ _ _ _ _ _ := trivial
  sz_zero := trivial
  sz_one := trivial
  data a := .int a.x
  sh _ := rfl
  nm _ _ := by simp [noMix]
  eq _ := by simp [PySem.Spec.same]
  ne a b h := by
    simp [PySem.Spec.same]
    intro e
    exact h (Re.eq_of e)
def cAdd : Option Int → Option Int → Option Int
  | none, y => y
  | x, none => x
  | some a, some b => some (if b < a then b else a)
def cMul : Option Int → Option Int → Option Int
  | some a, some b => some (a + b)
  | _, _ => none
def cData : Option Int → PyData
  | none => .none
  | some i => .int i
def costSR : SR where
  W := Option Int
  add := cAdd
  mul := cMul
  zero := none
  one := some 0
  add_comm x y := by
    cases x <;> cases y <;> simp only [cAdd]
    congr 1; split <;> split <;> omega
  add_assoc x y z := by
    cases x <;> cases y <;> cases z <;> simp only [cAdd]
    congr 1; repeat (split <;> try omega)
  mul_comm x y := by
    cases x <;> cases y <;> simp only [cMul]
    congr 1; omega
  mul_assoc x y z := by
    cases x <;> cases y <;> cases z <;> simp only [cMul]
    congr 1; omega
  distrib x y z := by
    cases x <;> cases y <;> cases z <;> simp only [cMul, cAdd]
    congr 1; repeat (split <;> try omega)
  add_zero x := by cases x <;> rfl
  mul_one x := by
    cases x with
    | none => rfl
    | some a => simp only [cMul]; congr 1; omega
  mul_zero x := by cases x <;> rfl
  zo h := by cases h
  sz _ _ := True
  sz_mono _ _ _ _ _ := trivial
  sz_add _ _ _ _ _ _ := trivial
  sz_mul _ _ _ _ _ _ := trivial
  sz_zero := trivial
  sz_one := trivial
  data := cData
  sh x := by cases x <;> rfl
  nm x y := by cases x <;> cases y <;> simp [cData, noMix]
  eq x := by cases x <;> simp [cData, PySem.Spec.same]
  ne x y h := by cases x <;> cases y <;> simp_all [cData, PySem.Spec.same]
def truthSR : SR where
  W := Bool
  add := fun a b => a || b
  mul := fun a b => a && b
  zero := false
  one := true
  add_comm x y := by cases x <;> cases y <;> rfl
  add_assoc x y z := by cases x <;> cases y <;> cases z <;> rfl
  mul_comm x y := by cases x <;> cases y <;> rfl
  mul_assoc x y z := by cases x <;> cases y <;> cases z <;> rfl
  distrib x y z := by cases x <;> cases y <;> cases z <;> rfl
  add_zero x := by cases x <;> rfl
  mul_one x := by cases x <;> rfl
  mul_zero x := by cases x <;> rfl
  zo h := by cases h
  sz _ _ := True
  sz_mono _ _ _ _ _ := trivial
  sz_add _ _ _ _ _ _ := trivial
  sz_mul _ _ _ _ _ _ := trivial
  sz_zero := trivial
  sz_one := trivial
  data := .bool
  sh _ := rfl
  nm _ _ := by simp [noMix]
  eq _ := by simp [PySem.Spec.same]
  ne a b h := by simp_all [PySem.Spec.same]
theorem sz_log {x : Int} {n : Nat} (h : x.natAbs ≤ 2 ^ n) (hn : n ≤ 8900) : x.natAbs.log2 < 9000 := by
  by_cases e : x.natAbs = 0
  · rw [e]; decide
  · rw [Nat.log2_lt e]
    exact Nat.lt_of_le_of_lt h (Nat.pow_lt_pow_right (by decide) (by omega))
theorem sz_bits {x : Int} {n : Nat} (h : x.natAbs ≤ 2 ^ n) (hn : n ≤ 8900) : Builtin.Int.intBits x ≤ 2 ^ 20 :=
  intBits_le_iff.mpr (Nat.lt_of_le_of_lt h (Nat.pow_lt_pow_right (by decide) (Nat.lt_of_le_of_lt hn (by decide))))
end Mine
/-! A kind of weights as an object of the program: its class, what stands for a weight, its methods' promises. -/
namespace L2
open PySem Mine
def KAt (C : Addr) (fs : List (Str × V)) (H : Hp) (k : V) : Prop := ∃ p dx, k = .ref p ∧ H p = some (.ins C dx fs)
theorem KAt.same {C : Addr} {fs : List (Str × V)} {H H' : Hp} {k : V} (e : Same H H') (h : KAt C fs H k) : KAt C fs H' k := by
  obtain ⟨p, dx, rfl, h⟩ := h
  exact ⟨p, dx, rfl, e _ _ h⟩
def spBin (C : Addr) (fs : List (Str × V)) (S : SR) (is : Hp → V → S.W → Prop) (f : S.W → S.W → S.W) : Sp := fun vs H Q _ => ∃ k x y a b m n, vs = [k, x, y] ∧
  (KAt C fs H k ∧ is H x a ∧ is H y b ∧ S.sz m a ∧ S.sz n b ∧ m + n ≤ 8000) ∧ ∀ v H', Same H H' → is H' v (f a b) → Q v H'
def spNul (C : Addr) (fs : List (Str × V)) (S : SR) (is : Hp → V → S.W → Prop) (z : S.W) : Sp := fun vs H Q _ => ∃ k, vs = [k] ∧ KAt C fs H k ∧ ∀ v H', Same H H' → is H' v z → Q v H'
def spIsW (C : Addr) (fs : List (Str × V)) (S : SR) (is : Hp → V → S.W → Prop) : Sp := fun vs H Q _ => ∃ k x a, vs = [k, x] ∧ (KAt C fs H k ∧ is H x a) ∧ Q (.bl true) H
structure KindR (P : Program) (w : World) (K : PySem.W.Frag) (mg : Str → Option Value) (base : Heap) where
  S : SR
  C : Addr
  fs : List (Str × V)
  cl : Cls K C
  is : Hp → V → S.W → Prop
  same : ∀ {H H' : Hp} {v : V} {x : S.W}, Same H H' → is H v x → is H' v x
  isd : ∀ {H : Hp} {v : V} {x : S.W}, is H v x → Is K H v (S.data x)
  f_plus : Addr
  d_plus : FuncData
  t_plus : Meth K C "plus" f_plus
  b_plus : Binds K d_plus ["self", "x", "y"] []
  l_plus : fs.lookup ("plus" : Str) = none
  G_plus : FnOk P w K mg base CX0 4 f_plus d_plus ["self", "x", "y"] (spBin C fs S is S.add)
  f_times : Addr
  d_times : FuncData
  t_times : Meth K C "times" f_times
  b_times : Binds K d_times ["self", "x", "y"] []
  l_times : fs.lookup ("times" : Str) = none
  G_times : FnOk P w K mg base CX0 4 f_times d_times ["self", "x", "y"] (spBin C fs S is S.mul)
  f_nought : Addr
  d_nought : FuncData
  t_nought : Meth K C "nought" f_nought
  b_nought : Binds K d_nought ["self"] []
  l_nought : fs.lookup ("nought" : Str) = none
  G_nought : FnOk P w K mg base CX0 4 f_nought d_nought ["self"] (spNul C fs S is S.zero)
  f_one : Addr
  d_one : FuncData
  t_one : Meth K C "one" f_one
  b_one : Binds K d_one ["self"] []
  l_one : fs.lookup ("one" : Str) = none
  G_one : FnOk P w K mg base CX0 4 f_one d_one ["self"] (spNul C fs S is S.one)
  f_is_weight : Addr
  d_is_weight : FuncData
  t_is_weight : Meth K C "is_weight" f_is_weight
  b_is_weight : Binds K d_is_weight ["self", "thing"] []
  l_is_weight : fs.lookup ("is_weight" : Str) = none
  G_is_weight : FnOk P w K mg base CX0 4 f_is_weight d_is_weight ["self", "thing"] (spIsW C fs S is)
section
variable {P : Program} {w : World} {K : PySem.W.Frag} {mg : Str → Option Value} {base : Heap}
theorem KindR.neD (R : KindR P w K mg base) {H : Hp} {x y : V} {a b : R.S.W} {Q : VK} (hx : R.is H x a) (hy : R.is H y b) (e : a = b) (q : Q (.bl false) H) : rNeD K x y H Q :=
  ⟨_, _, R.isd hx, R.isd hy, R.S.sh _, R.S.sh _, R.S.nm _ _, by subst e; rw [R.S.eq]; exact q⟩
theorem KindR.neT (R : KindR P w K mg base) {H : Hp} {x y : V} {a b : R.S.W} {Q : VK} (hx : R.is H x a) (hy : R.is H y b) (e : a ≠ b) (q : Q (.bl true) H) : rNeD K x y H Q :=
  ⟨_, _, R.isd hx, R.isd hy, R.S.sh _, R.S.sh _, R.S.nm _ _, by rw [R.S.ne _ _ e]; exact q⟩
theorem KindR.eqD (R : KindR P w K mg base) {H : Hp} {x y : V} {a b : R.S.W} {Q : VK} (hx : R.is H x a) (hy : R.is H y b) (e : a = b) (q : Q (.bl true) H) : rEqD K x y H Q :=
  ⟨_, _, R.isd hx, R.isd hy, R.S.sh _, R.S.sh _, R.S.nm _ _, by subst e; rw [R.S.eq]; exact q⟩
end
/-- a fraction: a tuple of two ints -/
def IsF (H : Hp) (v : V) (a b : Int) : Prop := ∃ p, v = .ref p ∧ H p = some (.tup [.int a, .int b])
theorem IsF.same {H H' : Hp} {v : V} {a b : Int} (e : Same H H') (h : IsF H v a b) : IsF H' v a b := by
  obtain ⟨p, rfl, h⟩ := h
  exact ⟨p, rfl, e _ _ h⟩
theorem IsF.is {K : PySem.W.Frag} {H : Hp} {v : V} {a b : Int} (h : IsF H v a b) : Is K H v (.tuple [.int a, .int b]) := by
  obtain ⟨p, rfl, h⟩ := h
  exact .tup (SqT.of h) (.cons (.int _) (.cons (.int _) .nil))
theorem IsF.new {H : Hp} {p : Addr} {a b : Int} : IsF (upd H p (.tup [.int a, .int b])) (.ref p) a b := ⟨p, rfl, upd_same⟩
def isFr (H : Hp) (v : V) (x : Fr) : Prop := IsF H v x.t x.b
def isRe (p : Int) (_ : Hp) (v : V) (x : Re p) : Prop := v = .int x.x
def cV : Option Int → V
  | none => .non
  | some i => .int i
def isCo (_ : Hp) (v : V) (x : Option Int) : Prop := v = cV x
def isTr (_ : Hp) (v : V) (x : Bool) : Prop := v = .bl x
def pfs (p : Int) : List (Str × V) := putF "prime" (.int p) []
theorem pfs_prime (p : Int) : (pfs p).lookup ("prime" : Str) = some (.int p) := by
  unfold pfs
  rw [lookup_putF, if_pos rfl]
theorem pfs_no (p : Int) {m : Str} (h : ¬ m = "prime") : (pfs p).lookup m = none := by
  unfold pfs
  rw [lookup_putF, if_neg h]; rfl
theorem same_made {H : Hp} {C x dx : Addr} {fs : List (Str × V)} (n : H x = none) (m : H dx = none) : Same H (upd (upd H dx (.own x)) x (.ins C dx fs)) := fun b o e => by
  rw [upd_ne (ne_of_none e n), upd_ne (ne_of_none e m)]; exact e
theorem cut_take (xs : List V) (k : Nat) : cutV xs none (some (k : Int)) = xs.take k := by
  unfold cutV
  rw [HT.sIx_none, HT.sIx_nat, List.drop_zero, Nat.sub_zero]
  by_cases h : k ≤ xs.length
  · rw [Nat.min_eq_left h]
  · rw [Nat.min_eq_right (by omega), List.take_length, List.take_of_length_le (by omega)]
theorem int_at {ns : List Int} {i : Nat} {j n : Int} (e : j = i) (h : ns[i]? = some n) : atI (ns.map V.int) j = some (V.int n) := by
  subst e
  exact atI_nat (by rw [List.getElem?_map, h]; rfl)
theorem cells_at {ns : List Int} {i : Nat} (h : i < ns.length) : ∃ n, ns[i]? = some n := ⟨ns[i], by simp [h]⟩
theorem decI {i j : Int} (e : i = j) : decide (V.int i = V.int j) = true := decide_eq_true (congrArg V.int e)
end L2
namespace K05
open PySem L2 Mine PyProof.Rows PySem.SeqAt
def top (i : Nat) : Stmt := PySem.Challenge.pw_weighwalk_k05_sums_and_products_go_toget.main.body.getD i (.Pass ⟨0, 0, 0, 0⟩)
abbrev s_is_whole : Stmt := top 7
abbrev s_divisor : Stmt := top 8
abbrev s_fraction : Stmt := top 9
abbrev s_is_prime : Stmt := top 10
abbrev s_Fractions_nought : Stmt := inClass (top 21) 1
abbrev s_Fractions_one : Stmt := inClass (top 21) 2
abbrev s_Fractions_plus : Stmt := inClass (top 21) 3
abbrev s_Fractions_times : Stmt := inClass (top 21) 4
abbrev s_Fractions_is_weight : Stmt := inClass (top 21) 7
abbrev s_Residues___init__ : Stmt := inClass (top 22) 0
abbrev s_Residues_nought : Stmt := inClass (top 22) 2
abbrev s_Residues_one : Stmt := inClass (top 22) 3
abbrev s_Residues_plus : Stmt := inClass (top 22) 4
abbrev s_Residues_times : Stmt := inClass (top 22) 5
abbrev s_Residues_is_weight : Stmt := inClass (top 22) 8
abbrev s_Costs_nought : Stmt := inClass (top 23) 1
abbrev s_Costs_one : Stmt := inClass (top 23) 2
abbrev s_Costs_plus : Stmt := inClass (top 23) 3
abbrev s_Costs_times : Stmt := inClass (top 23) 4
abbrev s_Costs_is_weight : Stmt := inClass (top 23) 5
abbrev s_Truths_nought : Stmt := inClass (top 24) 1
abbrev s_Truths_one : Stmt := inClass (top 24) 2
abbrev s_Truths_plus : Stmt := inClass (top 24) 3
abbrev s_Truths_times : Stmt := inClass (top 24) 4
abbrev s_Truths_is_weight : Stmt := inClass (top 24) 5
abbrev s_law_divisor : Stmt := top 26
abbrev s_law_low : Stmt := top 27
abbrev s_law_kinds : Stmt := top 28
abbrev s_law_weight : Stmt := top 29
abbrev s_law_three : Stmt := top 30
abbrev s_law_edges : Stmt := top 31
abbrev s_law : Stmt := top 32
theorem sc_is_whole : FnScope ["thing"] ["thing"] (defScope s_is_whole) := ⟨rfl, rfl, rfl, by decide +kernel, rfl, by decide +kernel, by decide +kernel⟩
theorem sc_divisor : FnScope ["one", "other", "greatest", "rest", "left"] ["one", "other"] (defScope s_divisor) := ⟨rfl, rfl, rfl, by decide +kernel, rfl, by decide +kernel, by decide +kernel⟩
theorem sc_fraction : FnScope ["top", "bottom", "shared"] ["top", "bottom"] (defScope s_fraction) := ⟨rfl, rfl, rfl, by decide +kernel, rfl, by decide +kernel, by decide +kernel⟩
theorem sc_is_prime : FnScope ["number", "factor"] ["number"] (defScope s_is_prime) := ⟨rfl, rfl, rfl, by decide +kernel, rfl, by decide +kernel, by decide +kernel⟩
theorem sc_Fractions_nought : FnScope ["self"] ["self"] (defScope s_Fractions_nought) := ⟨rfl, rfl, rfl, by decide +kernel, rfl, by decide +kernel, by decide +kernel⟩
theorem sc_Fractions_one : FnScope ["self"] ["self"] (defScope s_Fractions_one) := ⟨rfl, rfl, rfl, by decide +kernel, rfl, by decide +kernel, by decide +kernel⟩
theorem sc_Fractions_plus : FnScope ["self", "x", "y"] ["self", "x", "y"] (defScope s_Fractions_plus) := ⟨rfl, rfl, rfl, by decide +kernel, rfl, by decide +kernel, by decide +kernel⟩
theorem sc_Fractions_times : FnScope ["self", "x", "y"] ["self", "x", "y"] (defScope s_Fractions_times) := ⟨rfl, rfl, rfl, by decide +kernel, rfl, by decide +kernel, by decide +kernel⟩
theorem sc_Fractions_is_weight : FnScope ["self", "thing"] ["self", "thing"] (defScope s_Fractions_is_weight) := ⟨rfl, rfl, rfl, by decide +kernel, rfl, by decide +kernel, by decide +kernel⟩
theorem sc_Residues___init__ : FnScope ["self", "prime"] ["self", "prime"] (defScope s_Residues___init__) := ⟨rfl, rfl, rfl, by decide +kernel, rfl, by decide +kernel, by decide +kernel⟩
theorem sc_Residues_nought : FnScope ["self"] ["self"] (defScope s_Residues_nought) := ⟨rfl, rfl, rfl, by decide +kernel, rfl, by decide +kernel, by decide +kernel⟩
theorem sc_Residues_one : FnScope ["self"] ["self"] (defScope s_Residues_one) := ⟨rfl, rfl, rfl, by decide +kernel, rfl, by decide +kernel, by decide +kernel⟩
theorem sc_Residues_plus : FnScope ["self", "x", "y"] ["self", "x", "y"] (defScope s_Residues_plus) := ⟨rfl, rfl, rfl, by decide +kernel, rfl, by decide +kernel, by decide +kernel⟩
theorem sc_Residues_times : FnScope ["self", "x", "y"] ["self", "x", "y"] (defScope s_Residues_times) := ⟨rfl, rfl, rfl, by decide +kernel, rfl, by decide +kernel, by decide +kernel⟩
theorem sc_Residues_is_weight : FnScope ["self", "thing"] ["self", "thing"] (defScope s_Residues_is_weight) := ⟨rfl, rfl, rfl, by decide +kernel, rfl, by decide +kernel, by decide +kernel⟩
theorem sc_Costs_nought : FnScope ["self"] ["self"] (defScope s_Costs_nought) := ⟨rfl, rfl, rfl, by decide +kernel, rfl, by decide +kernel, by decide +kernel⟩
theorem sc_Costs_one : FnScope ["self"] ["self"] (defScope s_Costs_one) := ⟨rfl, rfl, rfl, by decide +kernel, rfl, by decide +kernel, by decide +kernel⟩
theorem sc_Costs_plus : FnScope ["self", "x", "y"] ["self", "x", "y"] (defScope s_Costs_plus) := ⟨rfl, rfl, rfl, by decide +kernel, rfl, by decide +kernel, by decide +kernel⟩
theorem sc_Costs_times : FnScope ["self", "x", "y"] ["self", "x", "y"] (defScope s_Costs_times) := ⟨rfl, rfl, rfl, by decide +kernel, rfl, by decide +kernel, by decide +kernel⟩
theorem sc_Costs_is_weight : FnScope ["self", "thing"] ["self", "thing"] (defScope s_Costs_is_weight) := ⟨rfl, rfl, rfl, by decide +kernel, rfl, by decide +kernel, by decide +kernel⟩
theorem sc_Truths_nought : FnScope ["self"] ["self"] (defScope s_Truths_nought) := ⟨rfl, rfl, rfl, by decide +kernel, rfl, by decide +kernel, by decide +kernel⟩
theorem sc_Truths_one : FnScope ["self"] ["self"] (defScope s_Truths_one) := ⟨rfl, rfl, rfl, by decide +kernel, rfl, by decide +kernel, by decide +kernel⟩
theorem sc_Truths_plus : FnScope ["self", "x", "y"] ["self", "x", "y"] (defScope s_Truths_plus) := ⟨rfl, rfl, rfl, by decide +kernel, rfl, by decide +kernel, by decide +kernel⟩
theorem sc_Truths_times : FnScope ["self", "x", "y"] ["self", "x", "y"] (defScope s_Truths_times) := ⟨rfl, rfl, rfl, by decide +kernel, rfl, by decide +kernel, by decide +kernel⟩
theorem sc_Truths_is_weight : FnScope ["self", "thing"] ["self", "thing"] (defScope s_Truths_is_weight) := ⟨rfl, rfl, rfl, by decide +kernel, rfl, by decide +kernel, by decide +kernel⟩
theorem sc_law_divisor : FnScope ["_law_one", "_law_other"] ["_law_one", "_law_other"] (defScope s_law_divisor) := ⟨rfl, rfl, rfl, by decide +kernel, rfl, by decide +kernel, by decide +kernel⟩
theorem sc_law_low : FnScope ["_law_top", "_law_bottom", "_law_by"] ["_law_top", "_law_bottom"] (defScope s_law_low) := ⟨rfl, rfl, rfl, by decide +kernel, rfl, by decide +kernel, by decide +kernel⟩
theorem sc_law_kinds : FnScope ["_law_cell", "_law_prime"] ["_law_cell"] (defScope s_law_kinds) := ⟨rfl, rfl, rfl, by decide +kernel, rfl, by decide +kernel, by decide +kernel⟩
theorem sc_law_weight : FnScope ["_law_way", "_law_prime", "_law_cell"] ["_law_way", "_law_prime", "_law_cell"] (defScope s_law_weight) := ⟨rfl, rfl, rfl, by decide +kernel, rfl, by decide +kernel, by decide +kernel⟩
theorem sc_law_three : FnScope ["_law_kind", "_law_x", "_law_y", "_law_z", "_law_one"] ["_law_kind", "_law_x", "_law_y", "_law_z"] (defScope s_law_three) := ⟨rfl, rfl, rfl, by decide +kernel, rfl, by decide +kernel, by decide +kernel⟩
theorem sc_law_edges : FnScope ["_law_kind", "_law_x", "_law_nought", "_law_one"] ["_law_kind", "_law_x"] (defScope s_law_edges) := ⟨rfl, rfl, rfl, by decide +kernel, rfl, by decide +kernel, by decide +kernel⟩
theorem sc_law : FnScope ["_law_script", "_law_cells", "_law_kinds_here", "_law_prime", "_law_k", "_law_way", "_law_x", "_law_y", "_law_z"] ["_law_script"] (defScope s_law) := ⟨rfl, rfl, rfl, by decide +kernel, rfl, by decide +kernel, by decide +kernel⟩
def sp_whole : Sp := fun vs H Q _ => ∃ i, vs = [.int i] ∧ Q (.bl true) H
def sp_divisor : Sp := fun vs H Q _ => ∃ a b, vs = [.int a, .int b] ∧ Q (.int (dv a b)) H
def sp_fraction : Sp := fun vs H Q _ => ∃ a b n, vs = [.int a, .int b] ∧ (b.natAbs ≤ 2 ^ n ∧ n ≤ 8900 ∧ 0 < b) ∧ ∀ v H', Same H H' → IsF H' v (tp a b) (bt a b) → Q v H'
def sp_prime : Sp := fun vs H Q _ => ∃ n, vs = [.int n] ∧ (2 ≤ n ∧ n ≤ 1000000 ∧ isP n = true) ∧ Q (.bl true) H
def sp_init (C : Addr) : Sp := fun vs H Q _ => ∃ x dx n, vs = [.ref x, .int n] ∧ (2 ≤ n ∧ n ≤ 1000000 ∧ isP n = true) ∧ H x = some (.ins C dx []) ∧ Q .non (upd H x (.ins C dx (pfs n)))
structure Adr where
  is_whole : Addr
  d_is_whole : FuncData
  divisor : Addr
  d_divisor : FuncData
  fraction : Addr
  d_fraction : FuncData
  is_prime : Addr
  d_is_prime : FuncData
  Fractions_nought : Addr
  d_Fractions_nought : FuncData
  Fractions_one : Addr
  d_Fractions_one : FuncData
  Fractions_plus : Addr
  d_Fractions_plus : FuncData
  Fractions_times : Addr
  d_Fractions_times : FuncData
  Fractions_is_weight : Addr
  d_Fractions_is_weight : FuncData
  Residues___init__ : Addr
  d_Residues___init__ : FuncData
  Residues_nought : Addr
  d_Residues_nought : FuncData
  Residues_one : Addr
  d_Residues_one : FuncData
  Residues_plus : Addr
  d_Residues_plus : FuncData
  Residues_times : Addr
  d_Residues_times : FuncData
  Residues_is_weight : Addr
  d_Residues_is_weight : FuncData
  Costs_nought : Addr
  d_Costs_nought : FuncData
  Costs_one : Addr
  d_Costs_one : FuncData
  Costs_plus : Addr
  d_Costs_plus : FuncData
  Costs_times : Addr
  d_Costs_times : FuncData
  Costs_is_weight : Addr
  d_Costs_is_weight : FuncData
  Truths_nought : Addr
  d_Truths_nought : FuncData
  Truths_one : Addr
  d_Truths_one : FuncData
  Truths_plus : Addr
  d_Truths_plus : FuncData
  Truths_times : Addr
  d_Truths_times : FuncData
  Truths_is_weight : Addr
  d_Truths_is_weight : FuncData
  law_divisor : Addr
  d_law_divisor : FuncData
  law_low : Addr
  d_law_low : FuncData
  law_kinds : Addr
  d_law_kinds : FuncData
  law_weight : Addr
  d_law_weight : FuncData
  law_three : Addr
  d_law_three : FuncData
  law_edges : Addr
  d_law_edges : FuncData
  law : Addr
  d_law : FuncData
  Truths : Addr
  Costs : Addr
  Residues : Addr
  Fractions : Addr
structure Txt (K : PySem.W.Frag) (mg : Str → Option Value) (t : Adr) : Prop where
  F_is_whole : Fun K "is_whole" "is_whole" s_is_whole t.is_whole t.d_is_whole
  b_is_whole : Binds K t.d_is_whole ["thing"] []
  m_is_whole : mg "is_whole" = some (.ref t.is_whole)
  F_divisor : Fun K "divisor" "divisor" s_divisor t.divisor t.d_divisor
  b_divisor : Binds K t.d_divisor ["one", "other"] []
  m_divisor : mg "divisor" = some (.ref t.divisor)
  F_fraction : Fun K "fraction" "fraction" s_fraction t.fraction t.d_fraction
  b_fraction : Binds K t.d_fraction ["top", "bottom"] []
  m_fraction : mg "fraction" = some (.ref t.fraction)
  F_is_prime : Fun K "is_prime" "is_prime" s_is_prime t.is_prime t.d_is_prime
  b_is_prime : Binds K t.d_is_prime ["number"] []
  m_is_prime : mg "is_prime" = some (.ref t.is_prime)
  F_Fractions_nought : Fun K "nought" "Fractions.nought" s_Fractions_nought t.Fractions_nought t.d_Fractions_nought
  b_Fractions_nought : Binds K t.d_Fractions_nought ["self"] []
  t_Fractions_nought : Meth K t.Fractions "nought" t.Fractions_nought
  F_Fractions_one : Fun K "one" "Fractions.one" s_Fractions_one t.Fractions_one t.d_Fractions_one
  b_Fractions_one : Binds K t.d_Fractions_one ["self"] []
  t_Fractions_one : Meth K t.Fractions "one" t.Fractions_one
  F_Fractions_plus : Fun K "plus" "Fractions.plus" s_Fractions_plus t.Fractions_plus t.d_Fractions_plus
  b_Fractions_plus : Binds K t.d_Fractions_plus ["self", "x", "y"] []
  t_Fractions_plus : Meth K t.Fractions "plus" t.Fractions_plus
  F_Fractions_times : Fun K "times" "Fractions.times" s_Fractions_times t.Fractions_times t.d_Fractions_times
  b_Fractions_times : Binds K t.d_Fractions_times ["self", "x", "y"] []
  t_Fractions_times : Meth K t.Fractions "times" t.Fractions_times
  F_Fractions_is_weight : Fun K "is_weight" "Fractions.is_weight" s_Fractions_is_weight t.Fractions_is_weight t.d_Fractions_is_weight
  b_Fractions_is_weight : Binds K t.d_Fractions_is_weight ["self", "thing"] []
  t_Fractions_is_weight : Meth K t.Fractions "is_weight" t.Fractions_is_weight
  F_Residues___init__ : Fun K "__init__" "Residues.__init__" s_Residues___init__ t.Residues___init__ t.d_Residues___init__
  b_Residues___init__ : Binds K t.d_Residues___init__ ["self", "prime"] []
  t_Residues___init__ : Meth K t.Residues "__init__" t.Residues___init__
  F_Residues_nought : Fun K "nought" "Residues.nought" s_Residues_nought t.Residues_nought t.d_Residues_nought
  b_Residues_nought : Binds K t.d_Residues_nought ["self"] []
  t_Residues_nought : Meth K t.Residues "nought" t.Residues_nought
  F_Residues_one : Fun K "one" "Residues.one" s_Residues_one t.Residues_one t.d_Residues_one
  b_Residues_one : Binds K t.d_Residues_one ["self"] []
  t_Residues_one : Meth K t.Residues "one" t.Residues_one
  F_Residues_plus : Fun K "plus" "Residues.plus" s_Residues_plus t.Residues_plus t.d_Residues_plus
  b_Residues_plus : Binds K t.d_Residues_plus ["self", "x", "y"] []
  t_Residues_plus : Meth K t.Residues "plus" t.Residues_plus
  F_Residues_times : Fun K "times" "Residues.times" s_Residues_times t.Residues_times t.d_Residues_times
  b_Residues_times : Binds K t.d_Residues_times ["self", "x", "y"] []
  t_Residues_times : Meth K t.Residues "times" t.Residues_times
  F_Residues_is_weight : Fun K "is_weight" "Residues.is_weight" s_Residues_is_weight t.Residues_is_weight t.d_Residues_is_weight
  b_Residues_is_weight : Binds K t.d_Residues_is_weight ["self", "thing"] []
  t_Residues_is_weight : Meth K t.Residues "is_weight" t.Residues_is_weight
  F_Costs_nought : Fun K "nought" "Costs.nought" s_Costs_nought t.Costs_nought t.d_Costs_nought
  b_Costs_nought : Binds K t.d_Costs_nought ["self"] []
  t_Costs_nought : Meth K t.Costs "nought" t.Costs_nought
  F_Costs_one : Fun K "one" "Costs.one" s_Costs_one t.Costs_one t.d_Costs_one
  b_Costs_one : Binds K t.d_Costs_one ["self"] []
  t_Costs_one : Meth K t.Costs "one" t.Costs_one
  F_Costs_plus : Fun K "plus" "Costs.plus" s_Costs_plus t.Costs_plus t.d_Costs_plus
  b_Costs_plus : Binds K t.d_Costs_plus ["self", "x", "y"] []
  t_Costs_plus : Meth K t.Costs "plus" t.Costs_plus
  F_Costs_times : Fun K "times" "Costs.times" s_Costs_times t.Costs_times t.d_Costs_times
  b_Costs_times : Binds K t.d_Costs_times ["self", "x", "y"] []
  t_Costs_times : Meth K t.Costs "times" t.Costs_times
  F_Costs_is_weight : Fun K "is_weight" "Costs.is_weight" s_Costs_is_weight t.Costs_is_weight t.d_Costs_is_weight
  b_Costs_is_weight : Binds K t.d_Costs_is_weight ["self", "thing"] []
  t_Costs_is_weight : Meth K t.Costs "is_weight" t.Costs_is_weight
  F_Truths_nought : Fun K "nought" "Truths.nought" s_Truths_nought t.Truths_nought t.d_Truths_nought
  b_Truths_nought : Binds K t.d_Truths_nought ["self"] []
  t_Truths_nought : Meth K t.Truths "nought" t.Truths_nought
  F_Truths_one : Fun K "one" "Truths.one" s_Truths_one t.Truths_one t.d_Truths_one
  b_Truths_one : Binds K t.d_Truths_one ["self"] []
  t_Truths_one : Meth K t.Truths "one" t.Truths_one
  F_Truths_plus : Fun K "plus" "Truths.plus" s_Truths_plus t.Truths_plus t.d_Truths_plus
  b_Truths_plus : Binds K t.d_Truths_plus ["self", "x", "y"] []
  t_Truths_plus : Meth K t.Truths "plus" t.Truths_plus
  F_Truths_times : Fun K "times" "Truths.times" s_Truths_times t.Truths_times t.d_Truths_times
  b_Truths_times : Binds K t.d_Truths_times ["self", "x", "y"] []
  t_Truths_times : Meth K t.Truths "times" t.Truths_times
  F_Truths_is_weight : Fun K "is_weight" "Truths.is_weight" s_Truths_is_weight t.Truths_is_weight t.d_Truths_is_weight
  b_Truths_is_weight : Binds K t.d_Truths_is_weight ["self", "thing"] []
  t_Truths_is_weight : Meth K t.Truths "is_weight" t.Truths_is_weight
  F_law_divisor : Fun K "_law_divisor" "_law_divisor" s_law_divisor t.law_divisor t.d_law_divisor
  b_law_divisor : Binds K t.d_law_divisor ["_law_one", "_law_other"] []
  m_law_divisor : mg "_law_divisor" = some (.ref t.law_divisor)
  F_law_low : Fun K "_law_low" "_law_low" s_law_low t.law_low t.d_law_low
  b_law_low : Binds K t.d_law_low ["_law_top", "_law_bottom"] []
  m_law_low : mg "_law_low" = some (.ref t.law_low)
  F_law_kinds : Fun K "_law_kinds" "_law_kinds" s_law_kinds t.law_kinds t.d_law_kinds
  b_law_kinds : Binds K t.d_law_kinds ["_law_cell"] []
  m_law_kinds : mg "_law_kinds" = some (.ref t.law_kinds)
  F_law_weight : Fun K "_law_weight" "_law_weight" s_law_weight t.law_weight t.d_law_weight
  b_law_weight : Binds K t.d_law_weight ["_law_way", "_law_prime", "_law_cell"] []
  m_law_weight : mg "_law_weight" = some (.ref t.law_weight)
  F_law_three : Fun K "_law_three" "_law_three" s_law_three t.law_three t.d_law_three
  b_law_three : Binds K t.d_law_three ["_law_kind", "_law_x", "_law_y", "_law_z"] []
  m_law_three : mg "_law_three" = some (.ref t.law_three)
  F_law_edges : Fun K "_law_edges" "_law_edges" s_law_edges t.law_edges t.d_law_edges
  b_law_edges : Binds K t.d_law_edges ["_law_kind", "_law_x"] []
  m_law_edges : mg "_law_edges" = some (.ref t.law_edges)
  F_law : Fun K "law" "law" s_law t.law t.d_law
  b_law : Binds K t.d_law ["_law_script"] []
  m_law : mg "law" = some (.ref t.law)
  C_Truths : Cls K t.Truths
  m_Truths : mg "Truths" = some (.ref t.Truths)
  M_Truths : MkO K t.Truths
  C_Costs : Cls K t.Costs
  m_Costs : mg "Costs" = some (.ref t.Costs)
  M_Costs : MkO K t.Costs
  C_Residues : Cls K t.Residues
  m_Residues : mg "Residues" = some (.ref t.Residues)
  M_Residues : Mk K t.Residues t.Residues___init__
  C_Fractions : Cls K t.Fractions
  m_Fractions : mg "Fractions" = some (.ref t.Fractions)
  M_Fractions : MkO K t.Fractions
  z_isinstance : mg "isinstance" = none
  z_int : mg "int" = none
  z_bool : mg "bool" = none
  z_abs : mg "abs" = none
  z_tuple : mg "tuple" = none
  z_len : mg "len" = none
  c_GREATEST_PRIME : ∃ tk, mg "GREATEST_PRIME" = some (Value.int 1000000 tk)
  z_min : mg "min" = none
  z_range : mg "range" = none
  k_ii : PySem.W.kitOne K (.type "int") (.type "int") = some true
  k_ib : PySem.W.kitOne K (.type "int") (.type "bool") = some false
  k_tt : PySem.W.kitOne K (.type "tuple") (.type "tuple") = some true
  k_bb : PySem.W.kitOne K (.type "bool") (.type "bool") = some true
  nP : NoAttr K t.Residues "prime"
section
variable {P : Program} {w : World} {K : PySem.W.Frag} {mg : Str → Option Value} {base : Heap} {t : Adr}
theorem ok_is_whole (T : Txt K mg t) : FnOk P w K mg base CX0 1 t.is_whole t.d_is_whole ["thing"] sp_whole := by
  refine T.F_is_whole.ok sc_is_whole (fun vs H Q E h => ?_) (fun cdv A outer s H vs Q E hr h => ?_)
  · obtain ⟨i, rfl, _⟩ := h
    rfl
  · obtain ⟨i, rfl, k⟩ := h
    refine ⟨_, (pss_one (ps_ret (pe_and (pe_callB call_isi (by rfl) T.z_isinstance boot_isinstance (pa_cons (pv 0) (pa_cons (pe_bltn (v := .ty "int") rfl T.z_int boot_int rfl) pa_nil))) (pe_one (pe_not (pe_callB call_isi (by rfl) T.z_isinstance boot_isinstance (pa_cons (pv 0) (pa_cons (pe_bltn (v := .ty "bool") rfl T.z_bool boot_bool rfl) pa_nil)))))))), ?_⟩
    (repeat (first | apply Exists.intro | refine And.intro rfl ?_ | refine And.intro (by with_reducible assumption) ?_ | refine And.intro (SqT.of (by assumption)) ?_ | refine And.intro (SqL.of (by assumption)) ?_ | refine And.intro (TyOf.int _) ?_ | refine And.intro (TyOf.tup (by assumption)) ?_ | refine And.intro T.k_ii ?_ | refine And.intro T.k_ib ?_ | refine And.intro T.k_tt ?_ | refine And.intro T.k_bb ?_ | refine And.intro T.nP ?_))
    (try refine iteT ?_)
    (repeat (first | apply Exists.intro | refine And.intro rfl ?_ | refine And.intro (by with_reducible assumption) ?_ | refine And.intro (SqT.of (by assumption)) ?_ | refine And.intro (SqL.of (by assumption)) ?_ | refine And.intro (TyOf.int _) ?_ | refine And.intro (TyOf.tup (by assumption)) ?_ | refine And.intro T.k_ii ?_ | refine And.intro T.k_ib ?_ | refine And.intro T.k_tt ?_ | refine And.intro T.k_bb ?_ | refine And.intro T.nP ?_))
    exact k
theorem ok_divisor (T : Txt K mg t) : FnOk P w K mg base CX0 1 t.divisor t.d_divisor ["one", "other"] sp_divisor := by
  refine T.F_divisor.ok sc_divisor (fun vs H Q E h => ?_) (fun cdv A outer s H vs Q E hr h => ?_)
  · obtain ⟨a, b, rfl, _⟩ := h
    rfl
  · obtain ⟨a, b, rfl, k⟩ := h
    refine ⟨_, (pss_cons (ps_set (i := 2) sc_divisor.nd rfl (Or.inl rfl) (pe_callB call_abs (by rfl) T.z_abs boot_abs (pa_cons (pv 0) pa_nil))) (pss_cons (ps_set (i := 3) sc_divisor.nd rfl (Or.inl rfl) (pe_callB call_abs (by rfl) T.z_abs boot_abs (pa_cons (pv 1) pa_nil))) (pss_cons (ps_while PassesOwn.never (pt_cmpR op_gt (pv 3) pe_int (nomark _)) (pss_cons (ps_set (i := 4) sc_divisor.nd rfl (Or.inl rfl) (pe_op op_modN (pv 2) (pv 3))) (pss_cons (ps_set (i := 2) sc_divisor.nd rfl (Or.inl rfl) (pv 3)) (pss_one (ps_set (i := 3) sc_divisor.nd rfl (Or.inl rfl) (pv 4)))))) (pss_one (ps_ret (pv 2)))))), ?_⟩
    refine ⟨_, rfl, _, rfl, _, rfl, _, rfl, ?_⟩
    refine ⟨fun m σ H' => ∃ g r l, σ = [some (.int a), some (.int b), some (.int g), some (.int r), l] ∧ m = r.toNat ∧ (0 ≤ g ∧ 0 ≤ r ∧ dv g r = dv a b) ∧ H' = H, ⟨_, _, _, _, rfl, rfl, start1 a b, rfl⟩, ?_⟩
    rintro m σ H' ⟨g, r, l, rfl, rfl, ⟨g0, r0, e⟩, rfl⟩
    (repeat (first | apply Exists.intro | refine And.intro rfl ?_ | refine And.intro (by with_reducible assumption) ?_ | refine And.intro (SqT.of (by assumption)) ?_ | refine And.intro (SqL.of (by assumption)) ?_ | refine And.intro (TyOf.int _) ?_ | refine And.intro (TyOf.tup (by assumption)) ?_ | refine And.intro T.k_ii ?_ | refine And.intro T.k_ib ?_ | refine And.intro T.k_tt ?_ | refine And.intro T.k_bb ?_ | refine And.intro T.nP ?_))
    refine iteP (fun hr0 => ?_) (fun hr0 => ?_)
    · refine ⟨fun σ' H'' => ∃ g' r' l', σ' = [some (.int a), some (.int b), some (.int g'), some (.int r'), l'] ∧ r'.toNat < r.toNat ∧ (0 ≤ g' ∧ 0 ≤ r' ∧ dv g' r' = dv a b) ∧ H'' = H', fun σ' H'' ⟨g', r', l', e1, e2, e3, e4⟩ => ⟨_, e2, g', r', l', e1, rfl, e3, e4⟩, ?_⟩
      refine ⟨_, rfl, _, rfl, _, _, rfl, rfl, (show r ≠ 0 by omega), _, rfl, _, rfl, ?_⟩
      exact ⟨_, _, _, rfl, d_less hr0, d_turn e hr0, rfl⟩
    · refine ⟨_, rfl, ?_⟩
      (try dsimp only)
      rw [d_out e g0 r0 hr0]
      exact k
theorem ok_law_divisor (T : Txt K mg t) : FnOk P w K mg base CX0 1 t.law_divisor t.d_law_divisor ["_law_one", "_law_other"] sp_divisor := by
  refine T.F_law_divisor.ok sc_law_divisor (fun vs H Q E h => ?_) (fun cdv A outer s H vs Q E hr h => ?_)
  · obtain ⟨a, b, rfl, _⟩ := h
    rfl
  · obtain ⟨a, b, rfl, k⟩ := h
    refine ⟨_, (pss_cons (ps_while PassesOwn.never (pt_cmpR op_ne (pv 1) pe_int (nomark _)) (pss_one (ps_par (i := 0) (j := 1) rfl sc_law_divisor.nd rfl rfl (by decide) rfl rfl (pa_cons (pv 1) (pa_cons (pe_op op_modN (pv 0) (pv 1)) pa_nil)) rfl))) (pss_one (ps_ret (pe_callB call_abs (by rfl) T.z_abs boot_abs (pa_cons (pv 0) pa_nil))))), ?_⟩
    refine ⟨fun m σ H' => ∃ x y, σ = [some (.int x), some (.int y)] ∧ m = y.natAbs ∧ dv x y = dv a b ∧ H' = H, ⟨_, _, _, rfl, rfl, rfl, rfl⟩, ?_⟩
    rintro m σ H' ⟨x, y, rfl, rfl, e, rfl⟩
    (repeat (first | apply Exists.intro | refine And.intro rfl ?_ | refine And.intro (by with_reducible assumption) ?_ | refine And.intro (SqT.of (by assumption)) ?_ | refine And.intro (SqL.of (by assumption)) ?_ | refine And.intro (TyOf.int _) ?_ | refine And.intro (TyOf.tup (by assumption)) ?_ | refine And.intro T.k_ii ?_ | refine And.intro T.k_ib ?_ | refine And.intro T.k_tt ?_ | refine And.intro T.k_bb ?_ | refine And.intro T.nP ?_))
    refine iteNI (fun h0 => ?_) (fun h0 => ?_)
    · refine ⟨fun σ' H'' => ∃ x' y', σ' = [some (.int x'), some (.int y')] ∧ y'.natAbs < y.natAbs ∧ dv x' y' = dv a b ∧ H'' = H', fun σ' H'' ⟨x', y', e1, e2, e3, e4⟩ => ⟨_, e2, x', y', e1, rfl, e3, e4⟩, ?_⟩
      refine ⟨_, rfl, _, rfl, _, rfl, _, _, rfl, rfl, h0, _, _, rfl, ?_⟩
      exact ⟨_, _, rfl, fmod_abs_lt _ _ h0, l_turn e, rfl⟩
    · refine ⟨_, rfl, _, rfl, ?_⟩
      (try dsimp only)
      rw [out2 e h0]
      exact k
theorem fr_is {a b : Int} (pb : 0 < b) : a.fdiv (dv a b) = tp a b ∧ b.fdiv (dv a b) = bt a b := by
  unfold tp bt
  rw [sg_pos (by omega)]
  exact ⟨rfl, rfl⟩
theorem dv_sz {a b : Int} {n : Nat} (h : b.natAbs ≤ 2 ^ n) (pb : 0 < b) : (dv a b).natAbs ≤ 2 ^ n := by
  have h1 := dv_le a b (by omega)
  have h2 := dv_nonneg a b
  omega
theorem ok_fraction (T : Txt K mg t) : FnOk P w K mg base CX0 2 t.fraction t.d_fraction ["top", "bottom"] sp_fraction := by
  refine T.F_fraction.ok sc_fraction (fun vs H Q E h => ?_) (fun cdv A outer s H vs Q E hr h => ?_)
  · obtain ⟨a, b, n, rfl, _⟩ := h
    rfl
  · obtain ⟨a, b, n, rfl, ⟨hb, hn, pb⟩, k⟩ := h
    have hd : CDivB a (dv a b) := ⟨Int.ne_of_gt (dv_pos (by omega)), sz_log (dv_sz hb pb) hn⟩
    have hd' : CDivB b (dv a b) := hd
    refine ⟨_, (pss_cons (ps_if (PW.pt (pw_or (pt_not (pt_val (pe_call (ok_is_whole T) (hr.mono (by decide)) rfl T.m_is_whole T.F_is_whole.kp T.b_is_whole .nil pass0 (pa_cons (pv 0) pa_nil)))) (pw_or1 (pt_not (pt_val (pe_call (ok_is_whole T) (hr.mono (by decide)) rfl T.m_is_whole T.F_is_whole.kp T.b_is_whole .nil pass0 (pa_cons (pv 1) pa_nil))))))) (pss_one ps_never) pss_nil) (pss_cons (ps_if (pt_cmpR op_eq (pv 1) pe_int (nomark _)) (pss_one ps_never) pss_nil) (pss_cons (ps_set (i := 2) sc_fraction.nd rfl (Or.inl rfl) (pe_call (ok_divisor T) (hr.mono (by decide)) rfl T.m_divisor T.F_divisor.kp T.b_divisor .nil pass0 (pa_cons (pv 0) (pa_cons (pv 1) pa_nil)))) (pss_cons (ps_if (pt_cmpR op_lt (pv 1) pe_int (nomark _)) (pss_one (ps_set (i := 2) sc_fraction.nd rfl (Or.inl rfl) (pe_un un_neg (pv 2)))) pss_nil) (pss_one (ps_ret (pe_tup (pa_cons (pe_op op_fdivB (pv 0) (pv 2)) (pa_cons (pe_op op_fdivB (pv 1) (pv 2)) pa_nil))))))))), ?_⟩
    (repeat (first | apply Exists.intro | refine And.intro rfl ?_ | refine And.intro (by with_reducible assumption) ?_ | refine And.intro (SqT.of (by assumption)) ?_ | refine And.intro (SqL.of (by assumption)) ?_ | refine And.intro (TyOf.int _) ?_ | refine And.intro (TyOf.tup (by assumption)) ?_ | refine And.intro T.k_ii ?_ | refine And.intro T.k_ib ?_ | refine And.intro T.k_tt ?_ | refine And.intro T.k_bb ?_ | refine And.intro T.nP ?_))
    (try refine iteF ?_)
    (repeat (first | apply Exists.intro | refine And.intro rfl ?_ | refine And.intro (by with_reducible assumption) ?_ | refine And.intro (SqT.of (by assumption)) ?_ | refine And.intro (SqL.of (by assumption)) ?_ | refine And.intro (TyOf.int _) ?_ | refine And.intro (TyOf.tup (by assumption)) ?_ | refine And.intro T.k_ii ?_ | refine And.intro T.k_ib ?_ | refine And.intro T.k_tt ?_ | refine And.intro T.k_bb ?_ | refine And.intro T.nP ?_))
    (try refine iteF ?_)
    (repeat (first | apply Exists.intro | refine And.intro rfl ?_ | refine And.intro (by with_reducible assumption) ?_ | refine And.intro (SqT.of (by assumption)) ?_ | refine And.intro (SqL.of (by assumption)) ?_ | refine And.intro (TyOf.int _) ?_ | refine And.intro (TyOf.tup (by assumption)) ?_ | refine And.intro T.k_ii ?_ | refine And.intro T.k_ib ?_ | refine And.intro T.k_tt ?_ | refine And.intro T.k_bb ?_ | refine And.intro T.nP ?_))
    refine iteI (fun h0 => absurd h0 (by omega)) (fun _ => ?_)
    (repeat (first | apply Exists.intro | refine And.intro rfl ?_ | refine And.intro (by with_reducible assumption) ?_ | refine And.intro (SqT.of (by assumption)) ?_ | refine And.intro (SqL.of (by assumption)) ?_ | refine And.intro (TyOf.int _) ?_ | refine And.intro (TyOf.tup (by assumption)) ?_ | refine And.intro T.k_ii ?_ | refine And.intro T.k_ib ?_ | refine And.intro T.k_tt ?_ | refine And.intro T.k_bb ?_ | refine And.intro T.nP ?_))
    refine iteP (fun h0 => absurd h0 (by omega)) (fun _ => ?_)
    (repeat (first | apply Exists.intro | refine And.intro rfl ?_ | refine And.intro (by with_reducible assumption) ?_ | refine And.intro (SqT.of (by assumption)) ?_ | refine And.intro (SqL.of (by assumption)) ?_ | refine And.intro (TyOf.int _) ?_ | refine And.intro (TyOf.tup (by assumption)) ?_ | refine And.intro T.k_ii ?_ | refine And.intro T.k_ib ?_ | refine And.intro T.k_tt ?_ | refine And.intro T.k_bb ?_ | refine And.intro T.nP ?_))
    refine ⟨(by show 2 ≤ sizeLine; decide), fun p hp => ?_⟩
    refine k _ _ (same_upd hp) ?_
    (try dsimp only)
    rw [(fr_is pb).1, (fr_is pb).2]
    exact IsF.new
theorem ok_is_prime (T : Txt K mg t) : FnOk P w K mg base CX0 1 t.is_prime t.d_is_prime ["number"] sp_prime := by
  refine T.F_is_prime.ok sc_is_prime (fun vs H Q E h => ?_) (fun cdv A outer s H vs Q E hr h => ?_)
  · obtain ⟨n, rfl, _⟩ := h
    rfl
  · obtain ⟨n, rfl, ⟨n2, n6, hp⟩, k⟩ := h
    have PP := isP_true hp
    refine ⟨_, (pss_cons (ps_if (pt_cmpR op_lt (pv 0) pe_int (nomark _)) (pss_one (ps_ret pe_bl)) pss_nil) (pss_cons (ps_set (i := 1) sc_is_prime.nd rfl (Or.inl rfl) pe_int) (pss_cons (ps_while PassesOwn.never (pt_cmpR op_le (pe_op op_mul (pv 1) (pv 1)) (pv 0) (nomark _)) (pss_cons (ps_if (pt_cmpR op_eq (pe_op op_modN (pv 0) (pv 1)) pe_int (nomark _)) (pss_one (ps_ret pe_bl)) pss_nil) (pss_one (ps_set (i := 1) sc_is_prime.nd rfl (Or.inl rfl) (pe_op op_add (pv 1) pe_int))))) (pss_one (ps_ret pe_bl))))), ?_⟩
    refine ⟨_, rfl, _, _, rfl, rfl, _, rfl, ?_⟩
    refine iteP (fun h0 => absurd h0 (by omega)) (fun _ => ?_)
    refine ⟨fun m σ H' => ∃ f : Int, σ = [some (.int n), some (.int f)] ∧ m = (n + 2 - f).toNat ∧ (2 ≤ f ∧ f ≤ n + 1) ∧ H' = H, ⟨_, _, rfl, rfl, ⟨by omega, by omega⟩, rfl⟩, ?_⟩
    rintro m σ H' ⟨f, rfl, rfl, ⟨f2, fn⟩, rfl⟩
    have cm : CMul f f := .inl ⟨by omega, by omega⟩
    refine ⟨_, rfl, _, rfl, _, _, rfl, rfl, cm, _, rfl, _, _, rfl, rfl, _, rfl, ?_⟩
    refine iteP (fun h0 => ?_) (fun h0 => ?_)
    · refine ⟨fun σ' H'' => ∃ f' : Int, σ' = [some (.int n), some (.int f')] ∧ (n + 2 - f').toNat < (n + 2 - f).toNat ∧ (2 ≤ f' ∧ f' ≤ n + 1) ∧ H'' = H', fun σ' H'' ⟨f', e1, e2, e3, e4⟩ => ⟨_, e2, f', e1, rfl, e3, e4⟩, ?_⟩
      refine ⟨_, rfl, _, rfl, _, _, rfl, rfl, (show f ≠ 0 by omega), rfl, _, rfl, ?_⟩
      have hs := sq_le f2 h0
      refine iteI (fun h1 => absurd h1 (PP.2 f f2 h0)) (fun _ => ?_)
      refine ⟨_, rfl, _, _, rfl, rfl, ?_⟩
      exact ⟨_, rfl, by omega, ⟨by omega, by omega⟩, rfl⟩
    · exact k
theorem ok_Residues___init__ (T : Txt K mg t) : FnOk P w K mg base CX0 2 t.Residues___init__ t.d_Residues___init__ ["self", "prime"] (sp_init t.Residues) := by
  refine T.F_Residues___init__.ok sc_Residues___init__ (fun vs H Q E h => ?_) (fun cdv A outer s H vs Q E hr h => ?_)
  · obtain ⟨x, dx, n, rfl, _⟩ := h
    rfl
  · obtain ⟨x, dx, n, rfl, hn, hx, k⟩ := h
    refine ⟨_, (pss_cons (ps_if (PW.pt (pw_or (pt_not (pt_val (pe_call (ok_is_whole T) (hr.mono (by decide)) rfl T.m_is_whole T.F_is_whole.kp T.b_is_whole .nil pass0 (pa_cons (pv 1) pa_nil)))) (pw_or (pt_cmpR op_gt (pv 1) (pe_glob (v := .int 1000000) rfl T.c_GREATEST_PRIME.choose_spec ⟨_, rfl⟩) (nomark _)) (pw_or1 (pt_not (pt_val (pe_call (ok_is_prime T) (hr.mono (by decide)) rfl T.m_is_prime T.F_is_prime.kp T.b_is_prime .nil pass0 (pa_cons (pv 1) pa_nil)))))))) (pss_one ps_never) pss_nil) (pss_one (ps_fld (pv 0) (pv 1) rfl))), ?_⟩
    refine ⟨_, rfl, _, rfl, _, rfl, ?_⟩
    (try refine iteF ?_)
    refine ⟨_, rfl, _, _, rfl, rfl, _, rfl, ?_⟩
    refine iteP (fun h0 => absurd h0 (by have := hn.2.1; omega)) (fun _ => ?_)
    refine ⟨_, rfl, _, rfl, hn, _, rfl, ?_⟩
    (try refine iteF ?_)
    refine ⟨_, rfl, _, rfl, x, _, dx, _, rfl, hx, T.C_Residues, T.nP, (by show 0 < 1000; decide), ?_⟩
    exact k
/-! the methods -/
theorem ok_Fractions_nought (T : Txt K mg t) : FnOk P w K mg base CX0 1 t.Fractions_nought t.d_Fractions_nought ["self"] (spNul t.Fractions [] frSR isFr Fr.zero) := by
  refine T.F_Fractions_nought.ok sc_Fractions_nought (fun vs H Q E h => ?_) (fun cdv A outer s H vs Q E hr h => ?_)
  · obtain ⟨x, rfl, _⟩ := h
    rfl
  · obtain ⟨x, rfl, _, k⟩ := h
    refine ⟨_, (pss_one (ps_ret (pe_tup (pa_cons pe_int (pa_cons pe_int pa_nil))))), ?_⟩
    exact ⟨(by show 2 ≤ sizeLine; decide), fun p hp => k _ _ (same_upd hp) IsF.new⟩
theorem ok_Fractions_one (T : Txt K mg t) : FnOk P w K mg base CX0 1 t.Fractions_one t.d_Fractions_one ["self"] (spNul t.Fractions [] frSR isFr Fr.one) := by
  refine T.F_Fractions_one.ok sc_Fractions_one (fun vs H Q E h => ?_) (fun cdv A outer s H vs Q E hr h => ?_)
  · obtain ⟨x, rfl, _⟩ := h
    rfl
  · obtain ⟨x, rfl, _, k⟩ := h
    refine ⟨_, (pss_one (ps_ret (pe_tup (pa_cons pe_int (pa_cons pe_int pa_nil))))), ?_⟩
    exact ⟨(by show 2 ≤ sizeLine; decide), fun p hp => k _ _ (same_upd hp) IsF.new⟩
theorem ok_Fractions_plus (T : Txt K mg t) : FnOk P w K mg base CX0 3 t.Fractions_plus t.d_Fractions_plus ["self", "x", "y"] (spBin t.Fractions [] frSR isFr Fr.add) := by
  refine T.F_Fractions_plus.ok sc_Fractions_plus (fun vs H Q E h => ?_) (fun cdv A outer s H vs Q E hr h => ?_)
  · obtain ⟨k, x, y, a, b, m, n, rfl, _⟩ := h
    rfl
  · obtain ⟨k0, x, y, a, b, m, n, rfl, ⟨_, ⟨px, rfl, hx⟩, ⟨py, rfl, hy⟩, sa, sb, hmn⟩, k⟩ := h
    have sa : a.sz m := sa
    have sb : b.sz n := sb
    have m1 : CMulB a.t b.b := ⟨sz_bits sa.1 (by omega), sz_bits sb.2 (by omega)⟩
    have m2 : CMulB b.t a.b := ⟨sz_bits sb.1 (by omega), sz_bits sa.2 (by omega)⟩
    have m3 : CMulB a.b b.b := ⟨sz_bits sa.2 (by omega), sz_bits sb.2 (by omega)⟩
    refine ⟨_, (pss_one (ps_ret (pe_call (ok_fraction T) (hr.mono (by decide)) rfl T.m_fraction T.F_fraction.kp T.b_fraction .nil pass0 (pa_cons (pe_op op_add (pe_op op_mulB (pe_ix ix_tup (pv 1) pe_int (fun _ _ => rfl)) (pe_ix ix_tup (pv 2) pe_int (fun _ _ => rfl))) (pe_op op_mulB (pe_ix ix_tup (pv 2) pe_int (fun _ _ => rfl)) (pe_ix ix_tup (pv 1) pe_int (fun _ _ => rfl)))) (pa_cons (pe_op op_mulB (pe_ix ix_tup (pv 1) pe_int (fun _ _ => rfl)) (pe_ix ix_tup (pv 2) pe_int (fun _ _ => rfl))) pa_nil))))), ?_⟩
    (repeat (first | apply Exists.intro | refine And.intro rfl ?_ | refine And.intro (by with_reducible assumption) ?_ | refine And.intro (SqT.of (by assumption)) ?_ | refine And.intro (SqL.of (by assumption)) ?_ | refine And.intro (TyOf.int _) ?_ | refine And.intro (TyOf.tup (by assumption)) ?_ | refine And.intro T.k_ii ?_ | refine And.intro T.k_ib ?_ | refine And.intro T.k_tt ?_ | refine And.intro T.k_bb ?_ | refine And.intro T.nP ?_))
    exact ⟨⟨mul_sz sa.2 sb.2, by omega, Int.mul_pos a.p b.p⟩, k⟩
theorem ok_Fractions_times (T : Txt K mg t) : FnOk P w K mg base CX0 3 t.Fractions_times t.d_Fractions_times ["self", "x", "y"] (spBin t.Fractions [] frSR isFr Fr.mul) := by
  refine T.F_Fractions_times.ok sc_Fractions_times (fun vs H Q E h => ?_) (fun cdv A outer s H vs Q E hr h => ?_)
  · obtain ⟨k, x, y, a, b, m, n, rfl, _⟩ := h
    rfl
  · obtain ⟨k0, x, y, a, b, m, n, rfl, ⟨_, ⟨px, rfl, hx⟩, ⟨py, rfl, hy⟩, sa, sb, hmn⟩, k⟩ := h
    have sa : a.sz m := sa
    have sb : b.sz n := sb
    have m1 : CMulB a.t b.t := ⟨sz_bits sa.1 (by omega), sz_bits sb.1 (by omega)⟩
    have m3 : CMulB a.b b.b := ⟨sz_bits sa.2 (by omega), sz_bits sb.2 (by omega)⟩
    refine ⟨_, (pss_one (ps_ret (pe_call (ok_fraction T) (hr.mono (by decide)) rfl T.m_fraction T.F_fraction.kp T.b_fraction .nil pass0 (pa_cons (pe_op op_mulB (pe_ix ix_tup (pv 1) pe_int (fun _ _ => rfl)) (pe_ix ix_tup (pv 2) pe_int (fun _ _ => rfl))) (pa_cons (pe_op op_mulB (pe_ix ix_tup (pv 1) pe_int (fun _ _ => rfl)) (pe_ix ix_tup (pv 2) pe_int (fun _ _ => rfl))) pa_nil))))), ?_⟩
    (repeat (first | apply Exists.intro | refine And.intro rfl ?_ | refine And.intro (by with_reducible assumption) ?_ | refine And.intro (SqT.of (by assumption)) ?_ | refine And.intro (SqL.of (by assumption)) ?_ | refine And.intro (TyOf.int _) ?_ | refine And.intro (TyOf.tup (by assumption)) ?_ | refine And.intro T.k_ii ?_ | refine And.intro T.k_ib ?_ | refine And.intro T.k_tt ?_ | refine And.intro T.k_bb ?_ | refine And.intro T.nP ?_))
    exact ⟨⟨mul_sz sa.2 sb.2, by omega, Int.mul_pos a.p b.p⟩, k⟩
theorem ok_Fractions_is_weight (T : Txt K mg t) : FnOk P w K mg base CX0 2 t.Fractions_is_weight t.d_Fractions_is_weight ["self", "thing"] (spIsW t.Fractions [] frSR isFr) := by
  refine T.F_Fractions_is_weight.ok sc_Fractions_is_weight (fun vs H Q E h => ?_) (fun cdv A outer s H vs Q E hr h => ?_)
  · obtain ⟨k, x, a, rfl, _⟩ := h
    rfl
  · obtain ⟨k0, x, a, rfl, ⟨_, ⟨px, rfl, hx⟩⟩, k⟩ := h
    have hl : LenV K (.ref px) H 2 := .inr ⟨_, SqT.of hx, rfl⟩
    refine ⟨_, (pss_cons (ps_if (PW.pt (pw_or (pt_not (pt_val (pe_callB call_isi (by rfl) T.z_isinstance boot_isinstance (pa_cons (pv 1) (pa_cons (pe_bltn (v := .ty "tuple") rfl T.z_tuple boot_tuple rfl) pa_nil))))) (pw_or1 (pt_cmpR op_ne (pe_callB call_len (by rfl) T.z_len PySem.boot_len (pa_cons (pv 1) pa_nil)) pe_int (nomark _))))) (pss_one (ps_ret pe_bl)) pss_nil) (pss_cons (ps_if (PW.pt (pw_or (pt_not (pt_val (pe_call (ok_is_whole T) (hr.mono (by decide)) rfl T.m_is_whole T.F_is_whole.kp T.b_is_whole .nil pass0 (pa_cons (pe_ix ix_tup (pv 1) pe_int (fun _ _ => rfl)) pa_nil)))) (pw_or1 (pt_not (pt_val (pe_call (ok_is_whole T) (hr.mono (by decide)) rfl T.m_is_whole T.F_is_whole.kp T.b_is_whole .nil pass0 (pa_cons (pe_ix ix_tup (pv 1) pe_int (fun _ _ => rfl)) pa_nil))))))) (pss_one (ps_ret pe_bl)) pss_nil) (pss_one (ps_ret (pe_and (pe_cmpR op_ge (pe_ix ix_tup (pv 1) pe_int (fun _ _ => rfl)) pe_int (nomark _)) (pe_one (pe_cmpR op_eq (pe_call (ok_divisor T) (hr.mono (by decide)) rfl T.m_divisor T.F_divisor.kp T.b_divisor .nil pass0 (pa_cons (pe_ix ix_tup (pv 1) pe_int (fun _ _ => rfl)) (pa_cons (pe_ix ix_tup (pv 1) pe_int (fun _ _ => rfl)) pa_nil))) pe_int (nomark _)))))))), ?_⟩
    (repeat (first | apply Exists.intro | refine And.intro rfl ?_ | refine And.intro (by with_reducible assumption) ?_ | refine And.intro (SqT.of (by assumption)) ?_ | refine And.intro (SqL.of (by assumption)) ?_ | refine And.intro (TyOf.int _) ?_ | refine And.intro (TyOf.tup (by assumption)) ?_ | refine And.intro T.k_ii ?_ | refine And.intro T.k_ib ?_ | refine And.intro T.k_tt ?_ | refine And.intro T.k_bb ?_ | refine And.intro T.nP ?_))
    refine ⟨hl, ?_⟩
    (repeat (first | apply Exists.intro | refine And.intro rfl ?_ | refine And.intro (by with_reducible assumption) ?_ | refine And.intro (SqT.of (by assumption)) ?_ | refine And.intro (SqL.of (by assumption)) ?_ | refine And.intro (TyOf.int _) ?_ | refine And.intro (TyOf.tup (by assumption)) ?_ | refine And.intro T.k_ii ?_ | refine And.intro T.k_ib ?_ | refine And.intro T.k_tt ?_ | refine And.intro T.k_bb ?_ | refine And.intro T.nP ?_))
    refine iteP (fun _ => ?_) (fun h => absurd a.p (by omega))
    (repeat (first | apply Exists.intro | refine And.intro rfl ?_ | refine And.intro (by with_reducible assumption) ?_ | refine And.intro (SqT.of (by assumption)) ?_ | refine And.intro (SqL.of (by assumption)) ?_ | refine And.intro (TyOf.int _) ?_ | refine And.intro (TyOf.tup (by assumption)) ?_ | refine And.intro T.k_ii ?_ | refine And.intro T.k_ib ?_ | refine And.intro T.k_tt ?_ | refine And.intro T.k_bb ?_ | refine And.intro T.nP ?_))
    (try dsimp only)
    rw [decI a.l]
    exact k
theorem ok_Residues_nought (T : Txt K mg t) (p : Int) (hp : 2 ≤ p) : FnOk P w K mg base CX0 1 t.Residues_nought t.d_Residues_nought ["self"] (spNul t.Residues (pfs p) (resSR p hp) (isRe p) (resSR p hp).zero) := by
  refine T.F_Residues_nought.ok sc_Residues_nought (fun vs H Q E h => ?_) (fun cdv A outer s H vs Q E hr h => ?_)
  · obtain ⟨x, rfl, _⟩ := h
    rfl
  · obtain ⟨x, rfl, _, k⟩ := h
    refine ⟨_, (pss_one (ps_ret pe_int)), ?_⟩
    exact k _ _ (Same.refl _) rfl
theorem ok_Residues_one (T : Txt K mg t) (p : Int) (hp : 2 ≤ p) : FnOk P w K mg base CX0 1 t.Residues_one t.d_Residues_one ["self"] (spNul t.Residues (pfs p) (resSR p hp) (isRe p) (resSR p hp).one) := by
  refine T.F_Residues_one.ok sc_Residues_one (fun vs H Q E h => ?_) (fun cdv A outer s H vs Q E hr h => ?_)
  · obtain ⟨x, rfl, _⟩ := h
    rfl
  · obtain ⟨x, rfl, _, k⟩ := h
    refine ⟨_, (pss_one (ps_ret pe_int)), ?_⟩
    exact k _ _ (Same.refl _) rfl
theorem ok_Residues_plus (T : Txt K mg t) (p : Int) (hp : 2 ≤ p) : FnOk P w K mg base CX0 1 t.Residues_plus t.d_Residues_plus ["self", "x", "y"] (spBin t.Residues (pfs p) (resSR p hp) (isRe p) (resSR p hp).add) := by
  refine T.F_Residues_plus.ok sc_Residues_plus (fun vs H Q E h => ?_) (fun cdv A outer s H vs Q E hr h => ?_)
  · obtain ⟨k, x, y, a, b, m, n, rfl, _⟩ := h
    rfl
  · obtain ⟨k0, x, y, a, b, m, n, rfl, ⟨⟨q, dx, rfl, hq⟩, rfl, rfl, sa, sb, hmn⟩, k⟩ := h
    refine ⟨_, (pss_one (ps_ret (pe_op op_modN (pe_op op_add (pv 1) (pv 2)) (pe_fld (pv 0) rfl)))), ?_⟩
    refine ⟨_, rfl, _, rfl, _, _, rfl, rfl, _, rfl, q, _, dx, _, _, rfl, hq, T.C_Residues, T.nP, pfs_prime p, _, _, rfl, rfl, (show p ≠ 0 by omega), ?_⟩
    exact k _ _ (Same.refl _) rfl
theorem ok_Residues_times (T : Txt K mg t) (p : Int) (hp : 2 ≤ p) (hq : p ≤ 1000000) : FnOk P w K mg base CX0 1 t.Residues_times t.d_Residues_times ["self", "x", "y"] (spBin t.Residues (pfs p) (resSR p hp) (isRe p) (resSR p hp).mul) := by
  refine T.F_Residues_times.ok sc_Residues_times (fun vs H Q E h => ?_) (fun cdv A outer s H vs Q E hr h => ?_)
  · obtain ⟨k, x, y, a, b, m, n, rfl, _⟩ := h
    rfl
  · obtain ⟨k0, x, y, a, b, m, n, rfl, ⟨⟨q, dx, rfl, hk⟩, rfl, rfl, sa, sb, hmn⟩, k⟩ := h
    have cm : CMul a.x b.x := .inl ⟨by have := a.h0; omega, by have := a.h1; omega⟩
    refine ⟨_, (pss_one (ps_ret (pe_op op_modN (pe_op op_mul (pv 1) (pv 2)) (pe_fld (pv 0) rfl)))), ?_⟩
    refine ⟨_, rfl, _, rfl, _, _, rfl, rfl, cm, _, rfl, q, _, dx, _, _, rfl, hk, T.C_Residues, T.nP, pfs_prime p, _, _, rfl, rfl, (show p ≠ 0 by omega), ?_⟩
    exact k _ _ (Same.refl _) rfl
theorem ok_Residues_is_weight (T : Txt K mg t) (p : Int) (hp : 2 ≤ p) : FnOk P w K mg base CX0 2 t.Residues_is_weight t.d_Residues_is_weight ["self", "thing"] (spIsW t.Residues (pfs p) (resSR p hp) (isRe p)) := by
  refine T.F_Residues_is_weight.ok sc_Residues_is_weight (fun vs H Q E h => ?_) (fun cdv A outer s H vs Q E hr h => ?_)
  · obtain ⟨k, x, a, rfl, _⟩ := h
    rfl
  · obtain ⟨k0, x, a, rfl, ⟨⟨q, dx, rfl, hq⟩, rfl⟩, k⟩ := h
    refine ⟨_, (pss_one (ps_ret (pe_and (pe_call (ok_is_whole T) (hr.mono (by decide)) rfl T.m_is_whole T.F_is_whole.kp T.b_is_whole .nil pass0 (pa_cons (pv 1) pa_nil)) (pe_one (pe_chain op_le op_lt pe_int (pv 1) (pe_fld (pv 0) rfl)))))), ?_⟩
    refine ⟨_, rfl, _, rfl, _, rfl, ?_⟩
    (try refine iteT ?_)
    refine ⟨_, rfl, _, _, rfl, rfl, _, rfl, ?_⟩
    refine iteP (fun _ => ?_) (fun h => absurd a.h0 h)
    refine ⟨_, rfl, q, _, dx, _, _, rfl, hq, T.C_Residues, T.nP, pfs_prime p, _, _, rfl, rfl, ?_⟩
    (try dsimp only)
    rw [decide_eq_true a.h1]
    exact k
theorem ok_Costs_nought (T : Txt K mg t) : FnOk P w K mg base CX0 1 t.Costs_nought t.d_Costs_nought ["self"] (spNul t.Costs [] costSR isCo costSR.zero) := by
  refine T.F_Costs_nought.ok sc_Costs_nought (fun vs H Q E h => ?_) (fun cdv A outer s H vs Q E hr h => ?_)
  · obtain ⟨x, rfl, _⟩ := h
    rfl
  · obtain ⟨x, rfl, _, k⟩ := h
    refine ⟨_, (pss_one (ps_ret pe_non)), ?_⟩
    exact k _ _ (Same.refl _) rfl
theorem ok_Costs_one (T : Txt K mg t) : FnOk P w K mg base CX0 1 t.Costs_one t.d_Costs_one ["self"] (spNul t.Costs [] costSR isCo costSR.one) := by
  refine T.F_Costs_one.ok sc_Costs_one (fun vs H Q E h => ?_) (fun cdv A outer s H vs Q E hr h => ?_)
  · obtain ⟨x, rfl, _⟩ := h
    rfl
  · obtain ⟨x, rfl, _, k⟩ := h
    refine ⟨_, (pss_one (ps_ret pe_int)), ?_⟩
    exact k _ _ (Same.refl _) rfl
theorem ok_Costs_plus (T : Txt K mg t) : FnOk P w K mg base CX0 1 t.Costs_plus t.d_Costs_plus ["self", "x", "y"] (spBin t.Costs [] costSR isCo costSR.add) := by
  refine T.F_Costs_plus.ok sc_Costs_plus (fun vs H Q E h => ?_) (fun cdv A outer s H vs Q E hr h => ?_)
  · obtain ⟨k, x, y, a, b, m, n, rfl, _⟩ := h
    rfl
  · obtain ⟨k0, x, y, a, b, m, n, rfl, ⟨_, rfl, rfl, sa, sb, hmn⟩, k⟩ := h
    refine ⟨_, (pss_cons (ps_if (pt_cmpR op_isN (pv 1) pe_non (nomark _)) (pss_one (ps_ret (pv 2))) pss_nil) (pss_cons (ps_if (pt_cmpR op_isN (pv 2) pe_non (nomark _)) (pss_one (ps_ret (pv 1))) pss_nil) (pss_one (ps_ret (pe_callB (call_min2 rfl) (by rfl) T.z_min boot_min (pa_cons (pv 1) (pa_cons (pv 2) pa_nil))))))), ?_⟩
    have k' := k (cV (cAdd a b)) H (Same.refl _) rfl
    cases a with
    | none =>
      refine ⟨_, rfl, rfl, _, rfl, ?_⟩
      refine iteT ?_
      exact ⟨_, rfl, k'⟩
    | some i =>
      refine ⟨_, rfl, rfl, _, rfl, ?_⟩
      refine iteF ?_
      cases b with
      | none =>
        refine ⟨_, rfl, rfl, _, rfl, ?_⟩
        refine iteT ?_
        exact ⟨_, rfl, k'⟩
      | some j =>
        refine ⟨_, rfl, rfl, _, rfl, ?_⟩
        refine iteF ?_
        exact ⟨_, rfl, _, rfl, _, _, rfl, k'⟩
theorem ok_Costs_times (T : Txt K mg t) : FnOk P w K mg base CX0 1 t.Costs_times t.d_Costs_times ["self", "x", "y"] (spBin t.Costs [] costSR isCo costSR.mul) := by
  refine T.F_Costs_times.ok sc_Costs_times (fun vs H Q E h => ?_) (fun cdv A outer s H vs Q E hr h => ?_)
  · obtain ⟨k, x, y, a, b, m, n, rfl, _⟩ := h
    rfl
  · obtain ⟨k0, x, y, a, b, m, n, rfl, ⟨_, rfl, rfl, sa, sb, hmn⟩, k⟩ := h
    refine ⟨_, (pss_cons (ps_if (PW.pt (pw_or (pt_cmpR op_isN (pv 1) pe_non (nomark _)) (pw_or1 (pt_cmpR op_isN (pv 2) pe_non (nomark _))))) (pss_one (ps_ret pe_non)) pss_nil) (pss_one (ps_ret (pe_op op_add (pv 1) (pv 2))))), ?_⟩
    have k' := k (cV (cMul a b)) H (Same.refl _) rfl
    cases a with
    | none =>
      refine ⟨_, rfl, rfl, _, rfl, ?_⟩
      refine iteT ?_
      (try refine iteT ?_)
      exact k'
    | some i =>
      refine ⟨_, rfl, rfl, _, rfl, ?_⟩
      refine iteF ?_
      cases b with
      | none =>
        refine ⟨_, rfl, rfl, _, rfl, ?_⟩
        (try refine iteT ?_)
        exact k'
      | some j =>
        refine ⟨_, rfl, rfl, _, rfl, ?_⟩
        (try refine iteF ?_)
        exact ⟨_, rfl, _, rfl, _, _, rfl, rfl, k'⟩
theorem ok_Costs_is_weight (T : Txt K mg t) : FnOk P w K mg base CX0 2 t.Costs_is_weight t.d_Costs_is_weight ["self", "thing"] (spIsW t.Costs [] costSR isCo) := by
  refine T.F_Costs_is_weight.ok sc_Costs_is_weight (fun vs H Q E h => ?_) (fun cdv A outer s H vs Q E hr h => ?_)
  · obtain ⟨k, x, a, rfl, _⟩ := h
    rfl
  · obtain ⟨k0, x, a, rfl, ⟨_, rfl⟩, k⟩ := h
    refine ⟨_, (pss_one (ps_ret (pe_or (pe_cmpR op_isN (pv 1) pe_non (nomark _)) (pe_one (pe_call (ok_is_whole T) (hr.mono (by decide)) rfl T.m_is_whole T.F_is_whole.kp T.b_is_whole .nil pass0 (pa_cons (pv 1) pa_nil)))))), ?_⟩
    cases a with
    | none =>
      refine ⟨_, rfl, rfl, _, rfl, ?_⟩
      refine iteT ?_
      exact k
    | some i =>
      refine ⟨_, rfl, rfl, _, rfl, ?_⟩
      refine iteF ?_
      exact ⟨_, rfl, _, rfl, k⟩
theorem ok_Truths_nought (T : Txt K mg t) : FnOk P w K mg base CX0 1 t.Truths_nought t.d_Truths_nought ["self"] (spNul t.Truths [] truthSR isTr truthSR.zero) := by
  refine T.F_Truths_nought.ok sc_Truths_nought (fun vs H Q E h => ?_) (fun cdv A outer s H vs Q E hr h => ?_)
  · obtain ⟨x, rfl, _⟩ := h
    rfl
  · obtain ⟨x, rfl, _, k⟩ := h
    refine ⟨_, (pss_one (ps_ret pe_bl)), ?_⟩
    exact k _ _ (Same.refl _) rfl
theorem ok_Truths_one (T : Txt K mg t) : FnOk P w K mg base CX0 1 t.Truths_one t.d_Truths_one ["self"] (spNul t.Truths [] truthSR isTr truthSR.one) := by
  refine T.F_Truths_one.ok sc_Truths_one (fun vs H Q E h => ?_) (fun cdv A outer s H vs Q E hr h => ?_)
  · obtain ⟨x, rfl, _⟩ := h
    rfl
  · obtain ⟨x, rfl, _, k⟩ := h
    refine ⟨_, (pss_one (ps_ret pe_bl)), ?_⟩
    exact k _ _ (Same.refl _) rfl
theorem ok_Truths_plus (T : Txt K mg t) : FnOk P w K mg base CX0 1 t.Truths_plus t.d_Truths_plus ["self", "x", "y"] (spBin t.Truths [] truthSR isTr truthSR.add) := by
  refine T.F_Truths_plus.ok sc_Truths_plus (fun vs H Q E h => ?_) (fun cdv A outer s H vs Q E hr h => ?_)
  · obtain ⟨k, x, y, a, b, m, n, rfl, _⟩ := h
    rfl
  · obtain ⟨k0, x, y, a, b, m, n, rfl, ⟨_, rfl, rfl, sa, sb, hmn⟩, k⟩ := h
    refine ⟨_, (pss_one (ps_ret (pe_or (pv 1) (pe_one (pv 2))))), ?_⟩
    have k' := k (.bl (a || b)) H (Same.refl _) rfl
    cases a with
    | true => exact ⟨_, rfl, _, rfl, iteT k'⟩
    | false => exact ⟨_, rfl, _, rfl, iteF ⟨_, rfl, k'⟩⟩
theorem ok_Truths_times (T : Txt K mg t) : FnOk P w K mg base CX0 1 t.Truths_times t.d_Truths_times ["self", "x", "y"] (spBin t.Truths [] truthSR isTr truthSR.mul) := by
  refine T.F_Truths_times.ok sc_Truths_times (fun vs H Q E h => ?_) (fun cdv A outer s H vs Q E hr h => ?_)
  · obtain ⟨k, x, y, a, b, m, n, rfl, _⟩ := h
    rfl
  · obtain ⟨k0, x, y, a, b, m, n, rfl, ⟨_, rfl, rfl, sa, sb, hmn⟩, k⟩ := h
    refine ⟨_, (pss_one (ps_ret (pe_and (pv 1) (pe_one (pv 2))))), ?_⟩
    have k' := k (.bl (a && b)) H (Same.refl _) rfl
    cases a with
    | true => exact ⟨_, rfl, _, rfl, iteT ⟨_, rfl, k'⟩⟩
    | false => exact ⟨_, rfl, _, rfl, iteF k'⟩
theorem ok_Truths_is_weight (T : Txt K mg t) : FnOk P w K mg base CX0 1 t.Truths_is_weight t.d_Truths_is_weight ["self", "thing"] (spIsW t.Truths [] truthSR isTr) := by
  refine T.F_Truths_is_weight.ok sc_Truths_is_weight (fun vs H Q E h => ?_) (fun cdv A outer s H vs Q E hr h => ?_)
  · obtain ⟨k, x, a, rfl, _⟩ := h
    rfl
  · obtain ⟨k0, x, a, rfl, ⟨_, rfl⟩, k⟩ := h
    refine ⟨_, (pss_one (ps_ret (pe_callB call_isi (by rfl) T.z_isinstance boot_isinstance (pa_cons (pv 1) (pa_cons (pe_bltn (v := .ty "bool") rfl T.z_bool boot_bool rfl) pa_nil))))), ?_⟩
    exact ⟨_, rfl, _, _, _, _, rfl, TyOf.bl _, T.k_bb, k⟩
/-! the kinds -/
def R_fr (T : Txt K mg t) : KindR P w K mg base where
  S := frSR
  C := t.Fractions
  fs := []
  cl := T.C_Fractions
  is := isFr
  same e h := IsF.same e h
  isd h := IsF.is h
  f_plus := _
  d_plus := _
  t_plus := T.t_Fractions_plus
  b_plus := T.b_Fractions_plus
  l_plus := rfl
  G_plus := (ok_Fractions_plus T).mono (by decide)
  f_times := _
  d_times := _
  t_times := T.t_Fractions_times
  b_times := T.b_Fractions_times
  l_times := rfl
  G_times := (ok_Fractions_times T).mono (by decide)
  f_nought := _
  d_nought := _
  t_nought := T.t_Fractions_nought
  b_nought := T.b_Fractions_nought
  l_nought := rfl
  G_nought := (ok_Fractions_nought T).mono (by decide)
  f_one := _
  d_one := _
  t_one := T.t_Fractions_one
  b_one := T.b_Fractions_one
  l_one := rfl
  G_one := (ok_Fractions_one T).mono (by decide)
  f_is_weight := _
  d_is_weight := _
  t_is_weight := T.t_Fractions_is_weight
  b_is_weight := T.b_Fractions_is_weight
  l_is_weight := rfl
  G_is_weight := (ok_Fractions_is_weight T).mono (by decide)
def R_re (T : Txt K mg t) (p : Int) (hp : 2 ≤ p) (hq : p ≤ 1000000) : KindR P w K mg base where
  S := resSR p hp
  C := t.Residues
  fs := pfs p
  cl := T.C_Residues
  is := isRe p
  same _ h := h
  isd {H v x} h := by cases (show v = .int x.x from h); exact .int _
  f_plus := _
  d_plus := _
  t_plus := T.t_Residues_plus
  b_plus := T.b_Residues_plus
  l_plus := pfs_no p (by decide +kernel)
  G_plus := (ok_Residues_plus T p hp).mono (by decide)
  f_times := _
  d_times := _
  t_times := T.t_Residues_times
  b_times := T.b_Residues_times
  l_times := pfs_no p (by decide +kernel)
  G_times := (ok_Residues_times T p hp hq).mono (by decide)
  f_nought := _
  d_nought := _
  t_nought := T.t_Residues_nought
  b_nought := T.b_Residues_nought
  l_nought := pfs_no p (by decide +kernel)
  G_nought := (ok_Residues_nought T p hp).mono (by decide)
  f_one := _
  d_one := _
  t_one := T.t_Residues_one
  b_one := T.b_Residues_one
  l_one := pfs_no p (by decide +kernel)
  G_one := (ok_Residues_one T p hp).mono (by decide)
  f_is_weight := _
  d_is_weight := _
  t_is_weight := T.t_Residues_is_weight
  b_is_weight := T.b_Residues_is_weight
  l_is_weight := pfs_no p (by decide +kernel)
  G_is_weight := (ok_Residues_is_weight T p hp).mono (by decide)
def R_co (T : Txt K mg t) : KindR P w K mg base where
  S := costSR
  C := t.Costs
  fs := []
  cl := T.C_Costs
  is := isCo
  same _ h := h
  isd {H v x} h := by
    cases (show v = cV x from h)
    cases x with
    | none => exact .non
    | some i => exact .int i
  f_plus := _
  d_plus := _
  t_plus := T.t_Costs_plus
  b_plus := T.b_Costs_plus
  l_plus := rfl
  G_plus := (ok_Costs_plus T).mono (by decide)
  f_times := _
  d_times := _
  t_times := T.t_Costs_times
  b_times := T.b_Costs_times
  l_times := rfl
  G_times := (ok_Costs_times T).mono (by decide)
  f_nought := _
  d_nought := _
  t_nought := T.t_Costs_nought
  b_nought := T.b_Costs_nought
  l_nought := rfl
  G_nought := (ok_Costs_nought T).mono (by decide)
  f_one := _
  d_one := _
  t_one := T.t_Costs_one
  b_one := T.b_Costs_one
  l_one := rfl
  G_one := (ok_Costs_one T).mono (by decide)
  f_is_weight := _
  d_is_weight := _
  t_is_weight := T.t_Costs_is_weight
  b_is_weight := T.b_Costs_is_weight
  l_is_weight := rfl
  G_is_weight := (ok_Costs_is_weight T).mono (by decide)
def R_tr (T : Txt K mg t) : KindR P w K mg base where
  S := truthSR
  C := t.Truths
  fs := []
  cl := T.C_Truths
  is := isTr
  same _ h := h
  isd {H v x} h := by cases (show v = .bl x from h); exact .bl x
  f_plus := _
  d_plus := _
  t_plus := T.t_Truths_plus
  b_plus := T.b_Truths_plus
  l_plus := rfl
  G_plus := (ok_Truths_plus T).mono (by decide)
  f_times := _
  d_times := _
  t_times := T.t_Truths_times
  b_times := T.b_Truths_times
  l_times := rfl
  G_times := (ok_Truths_times T).mono (by decide)
  f_nought := _
  d_nought := _
  t_nought := T.t_Truths_nought
  b_nought := T.b_Truths_nought
  l_nought := rfl
  G_nought := (ok_Truths_nought T).mono (by decide)
  f_one := _
  d_one := _
  t_one := T.t_Truths_one
  b_one := T.b_Truths_one
  l_one := rfl
  G_one := (ok_Truths_one T).mono (by decide)
  f_is_weight := _
  d_is_weight := _
  t_is_weight := T.t_Truths_is_weight
  b_is_weight := T.b_Truths_is_weight
  l_is_weight := rfl
  G_is_weight := (ok_Truths_is_weight T).mono (by decide)
/-! the law's own defs -/
def sp_low : Sp := fun vs H Q _ => ∃ a b, vs = [.int a, .int b] ∧ (a.natAbs ≤ 2 ^ 40 ∧ b.natAbs ≤ 2 ^ 40 ∧ 0 < b) ∧ ∀ v H', Same H H' → ∀ x : Fr, isFr H' v x → x.sz 40 → Q v H'
theorem ok_law_low (T : Txt K mg t) : FnOk P w K mg base CX0 2 t.law_low t.d_law_low ["_law_top", "_law_bottom"] sp_low := by
  refine T.F_law_low.ok sc_law_low (fun vs H Q E h => ?_) (fun cdv A outer s H vs Q E hr h => ?_)
  · obtain ⟨a, b, rfl, _⟩ := h
    rfl
  · obtain ⟨a, b, rfl, ⟨ha, hb, pb⟩, k⟩ := h
    have hd : CDivB a (dv a b) := ⟨Int.ne_of_gt (dv_pos (by omega)), sz_log (dv_sz hb pb) (by decide)⟩
    have hd' : CDivB b (dv a b) := hd
    refine ⟨_, (pss_cons (ps_set (i := 2) sc_law_low.nd rfl (Or.inl rfl) (pe_call (ok_law_divisor T) (hr.mono (by decide)) rfl T.m_law_divisor T.F_law_divisor.kp T.b_law_divisor .nil pass0 (pa_cons (pv 0) (pa_cons (pv 1) pa_nil)))) (pss_one (ps_ret (pe_tup (pa_cons (pe_op op_fdivB (pv 0) (pv 2)) (pa_cons (pe_op op_fdivB (pv 1) (pv 2)) pa_nil)))))), ?_⟩
    (repeat (first | apply Exists.intro | refine And.intro rfl ?_ | refine And.intro (by with_reducible assumption) ?_ | refine And.intro (SqT.of (by assumption)) ?_ | refine And.intro (SqL.of (by assumption)) ?_ | refine And.intro (TyOf.int _) ?_ | refine And.intro (TyOf.tup (by assumption)) ?_ | refine And.intro T.k_ii ?_ | refine And.intro T.k_ib ?_ | refine And.intro T.k_tt ?_ | refine And.intro T.k_bb ?_ | refine And.intro T.nP ?_))
    refine ⟨(by show 2 ≤ sizeLine; decide), fun p hp => ?_⟩
    (try dsimp only)
    rw [(fr_is pb).1, (fr_is pb).2]
    exact k _ _ (same_upd hp) (Fr.of a b pb) IsF.new (of_sz ha hb)
theorem fm_in (a m : Int) (hm : 0 < m) : 0 ≤ a.fmod m ∧ a.fmod m < m := ⟨Int.fmod_nonneg_of_pos a hm, Int.fmod_lt_of_pos a hm⟩
def sp_weight : Sp := fun vs H Q _ => ∃ way p c, vs = [.int way, .int p, .int c] ∧
  ((way = 0 ∧ ∀ v H', Same H H' → ∀ x : Fr, isFr H' v x → x.sz 40 → Q v H') ∨ (way = 1 ∧ 0 < p ∧ ∀ x : Re p, Q (.int x.x) H) ∨ (way = 2 ∧ ∀ x : Option Int, Q (cV x) H) ∨ (way = 3 ∧ ∀ x : Bool, Q (.bl x) H))
theorem ok_law_weight (T : Txt K mg t) : FnOk P w K mg base CX0 3 t.law_weight t.d_law_weight ["_law_way", "_law_prime", "_law_cell"] sp_weight := by
  refine T.F_law_weight.ok sc_law_weight (fun vs H Q E h => ?_) (fun cdv A outer s H vs Q E hr h => ?_)
  · obtain ⟨a, b, c, rfl, _⟩ := h
    rfl
  · obtain ⟨way, p, c, rfl, k⟩ := h
    refine ⟨_, (pss_cons (ps_if (pt_cmpR op_eq (pv 0) pe_int (nomark _)) (pss_cons (ps_if (pt_cmpR op_eq (pe_op op_modN (pv 2) pe_int) pe_int (nomark _)) (pss_one (ps_ret (pe_tup (pa_cons (pe_op op_sub (pe_op op_modN (pe_op op_fdivB (pv 2) pe_int) pe_int) pe_int) (pa_cons pe_int pa_nil))))) pss_nil) (pss_one (ps_ret (pe_call (ok_law_low T) (hr.mono (by decide)) rfl T.m_law_low T.F_law_low.kp T.b_law_low .nil pass0 (pa_cons (pe_op op_sub (pe_op op_modN (pe_op op_fdivB (pv 2) pe_int) pe_int) pe_int) (pa_cons (pe_op op_add pe_int (pe_op op_modN (pe_op op_fdivB (pv 2) pe_int) pe_int)) pa_nil)))))) pss_nil) (pss_cons (ps_if (pt_cmpR op_eq (pv 0) pe_int (nomark _)) (pss_one (ps_ret (pe_op op_modN (pv 2) (pv 1)))) pss_nil) (pss_cons (ps_if (pt_cmpR op_eq (pv 0) pe_int (nomark _)) (pss_cons (ps_if (pt_cmpR op_eq (pe_op op_modN (pv 2) pe_int) pe_int (nomark _)) (pss_one (ps_ret pe_non)) pss_nil) (pss_one (ps_ret (pe_op op_sub (pe_op op_modN (pe_op op_fdivB (pv 2) pe_int) pe_int) pe_int)))) pss_nil) (pss_one (ps_ret (pe_cmpR op_eq (pe_op op_modN (pv 2) pe_int) pe_int (nomark _))))))), ?_⟩
    refine ⟨_, rfl, rfl, _, rfl, ?_⟩
    rcases k with ⟨rfl, k⟩ | ⟨rfl, hp, k⟩ | ⟨rfl, k⟩ | ⟨rfl, k⟩
    · refine iteT ?_
      refine ⟨_, rfl, _, _, rfl, rfl, (show (5 : Int) ≠ 0 by decide), rfl, _, rfl, ?_⟩
      refine iteI (fun h0 => ?_) (fun h0 => ?_)
      · refine ⟨_, rfl, _, _, rfl, rfl, ⟨by decide, by decide⟩, _, _, rfl, rfl, (show (3 : Int) ≠ 0 by decide), _, _, rfl, rfl, (by show 2 ≤ sizeLine; decide), fun q hq => ?_⟩
        have h3 := fm_in (c.fdiv 5) 3 (by decide)
        refine k _ _ (same_upd hq) ⟨(c.fdiv 5).fmod 3 - 1, 1, by decide, ?_⟩ IsF.new ⟨?_, ?_⟩
        · have e : (1 : Int) ≠ 0 := by decide
          have h1 := dv_le ((c.fdiv 5).fmod 3 - 1) 1 e
          have h2 := dv_pos (a := (c.fdiv 5).fmod 3 - 1) e
          have h4 : ((1 : Int).natAbs : Int) = 1 := rfl
          omega
        · have e : (2 : Nat) ^ 40 = 1099511627776 := by decide
          show ((c.fdiv 5).fmod 3 - 1).natAbs ≤ 2 ^ 40
          omega
        · show (1 : Int).natAbs ≤ 2 ^ 40
          decide
      · have h3 := fm_in (c.fdiv 5) 19999999999 (by decide)
        have h4 := fm_in (c.fdiv 7) 9999999999 (by decide)
        have e : (2 : Nat) ^ 40 = 1099511627776 := by decide
        refine ⟨_, rfl, _, _, rfl, rfl, ⟨by decide, by decide⟩, _, _, rfl, rfl, (show (19999999999 : Int) ≠ 0 by decide), _, _, rfl, rfl, _, rfl, _, _, rfl, rfl, ⟨by decide, by decide⟩, _, _, rfl, rfl, (show (9999999999 : Int) ≠ 0 by decide), _, _, rfl, rfl, _, _, rfl, ⟨?_, ?_, ?_⟩, k⟩
        · (try dsimp only); omega
        · (try dsimp only); omega
        · (try dsimp only); omega
    · refine iteF ?_
      refine ⟨_, rfl, rfl, _, rfl, ?_⟩
      refine iteT ?_
      refine ⟨_, rfl, _, rfl, _, _, rfl, rfl, (show p ≠ 0 by omega), ?_⟩
      exact k (Re.of p hp c)
    · refine iteF ?_
      refine ⟨_, rfl, rfl, _, rfl, ?_⟩
      refine iteF ?_
      refine ⟨_, rfl, rfl, _, rfl, ?_⟩
      refine iteT ?_
      refine ⟨_, rfl, _, _, rfl, rfl, (show (4 : Int) ≠ 0 by decide), rfl, _, rfl, ?_⟩
      refine iteI (fun h0 => ?_) (fun h0 => ?_)
      · exact k none
      · refine ⟨_, rfl, _, _, rfl, rfl, ⟨by decide, by decide⟩, _, _, rfl, rfl, (show (19999999999 : Int) ≠ 0 by decide), _, _, rfl, rfl, ?_⟩
        exact k (some _)
    · refine iteF ?_
      refine ⟨_, rfl, rfl, _, rfl, ?_⟩
      refine iteF ?_
      refine ⟨_, rfl, rfl, _, rfl, ?_⟩
      refine iteF ?_
      refine ⟨_, rfl, _, _, rfl, rfl, (show (2 : Int) ≠ 0 by decide), rfl, ?_⟩
      exact k _
def sp_three (P : Program) (w : World) (K : PySem.W.Frag) (mg : Str → Option Value) (base : Heap) : Sp := fun vs H Q _ => ∃ R : KindR P w K mg base, ∃ k x y z a b c, vs = [k, x, y, z] ∧
  (KAt R.C R.fs H k ∧ R.is H x a ∧ R.is H y b ∧ R.is H z c ∧ R.S.sz 40 a ∧ R.S.sz 40 b ∧ R.S.sz 40 c) ∧ ∀ H', Same H H' → Q (.bl true) H'
theorem ok_law_three (T : Txt K mg t) : FnOk P w K mg base CX0 5 t.law_three t.d_law_three ["_law_kind", "_law_x", "_law_y", "_law_z"] (sp_three P w K mg base) := by
  refine T.F_law_three.ok sc_law_three (fun vs H Q E h => ?_) (fun cdv A outer s H vs Q E hr h => ?_)
  · obtain ⟨R, k, x, y, z, a, b, c, rfl, _⟩ := h
    rfl
  · obtain ⟨R, k0, x, y, z, a, b, c, rfl, ⟨⟨p, dx, rfl, hk0⟩, hx0, hy0, hz0, sa, sb, sc⟩, k⟩ := h
    have hk : ∀ {H' : Hp}, Same H H' → H' p = some (.ins R.C dx R.fs) := fun q => q _ _ hk0
    have hx : ∀ {H' : Hp}, Same H H' → R.is H' x a := fun q => R.same q hx0
    have hy : ∀ {H' : Hp}, Same H H' → R.is H' y b := fun q => R.same q hy0
    have hz : ∀ {H' : Hp}, Same H H' → R.is H' z c := fun q => R.same q hz0
    have s0 := Same.refl H
    have zxy := R.S.sz_add _ _ _ _ sa sb
    have zyz := R.S.sz_add _ _ _ _ sb sc
    have wxy := R.S.sz_mul _ _ _ _ sa sb
    have wyz := R.S.sz_mul _ _ _ _ sb sc
    have wxz := R.S.sz_mul _ _ _ _ sa sc
    clear hx0 hy0 hz0 hk0
    refine ⟨_, (pss_cons (ps_for PassesOwn.never rfl (pi_list (pe_lst (pa_cons (pe_meth (pv 0) R.cl R.t_plus R.G_plus (hr.mono (by decide)) R.b_plus .nil pass0 (pa_cons (pv 1) (pa_cons (pv 2) pa_nil))) (pa_cons (pe_meth (pv 0) R.cl R.t_times R.G_times (hr.mono (by decide)) R.b_times .nil pass0 (pa_cons (pv 2) (pa_cons (pv 3) pa_nil))) (pa_cons (pe_meth (pv 0) R.cl R.t_plus R.G_plus (hr.mono (by decide)) R.b_plus .nil pass0 (pa_cons (pe_meth (pv 0) R.cl R.t_times R.G_times (hr.mono (by decide)) R.b_times .nil pass0 (pa_cons (pv 1) (pa_cons (pv 3) pa_nil))) (pa_cons (pv 2) pa_nil))) pa_nil))))) (pg_name (i := 4) sc_law_three.nd rfl (Or.inl rfl)) (pss_one (ps_if (pt_not (pt_val (pe_meth (pv 0) R.cl R.t_is_weight R.G_is_weight (hr.mono (by decide)) R.b_is_weight .nil pass0 (pa_cons (pv 4) pa_nil)))) (pss_one (ps_ret pe_bl)) pss_nil))) (pss_cons (ps_if (PW.pt (pw_or (pt_cmpR (op_neD hr.units) (pe_meth (pv 0) R.cl R.t_plus R.G_plus (hr.mono (by decide)) R.b_plus .nil pass0 (pa_cons (pv 1) (pa_cons (pv 2) pa_nil))) (pe_meth (pv 0) R.cl R.t_plus R.G_plus (hr.mono (by decide)) R.b_plus .nil pass0 (pa_cons (pv 2) (pa_cons (pv 1) pa_nil))) (nomark _)) (pw_or1 (pt_cmpR (op_neD hr.units) (pe_meth (pv 0) R.cl R.t_times R.G_times (hr.mono (by decide)) R.b_times .nil pass0 (pa_cons (pv 1) (pa_cons (pv 2) pa_nil))) (pe_meth (pv 0) R.cl R.t_times R.G_times (hr.mono (by decide)) R.b_times .nil pass0 (pa_cons (pv 2) (pa_cons (pv 1) pa_nil))) (nomark _))))) (pss_one (ps_ret pe_bl)) pss_nil) (pss_cons (ps_if (pt_cmpR (op_neD hr.units) (pe_meth (pv 0) R.cl R.t_plus R.G_plus (hr.mono (by decide)) R.b_plus .nil pass0 (pa_cons (pe_meth (pv 0) R.cl R.t_plus R.G_plus (hr.mono (by decide)) R.b_plus .nil pass0 (pa_cons (pv 1) (pa_cons (pv 2) pa_nil))) (pa_cons (pv 3) pa_nil))) (pe_meth (pv 0) R.cl R.t_plus R.G_plus (hr.mono (by decide)) R.b_plus .nil pass0 (pa_cons (pv 1) (pa_cons (pe_meth (pv 0) R.cl R.t_plus R.G_plus (hr.mono (by decide)) R.b_plus .nil pass0 (pa_cons (pv 2) (pa_cons (pv 3) pa_nil))) pa_nil))) (nomark _)) (pss_one (ps_ret pe_bl)) pss_nil) (pss_cons (ps_if (pt_cmpR (op_neD hr.units) (pe_meth (pv 0) R.cl R.t_times R.G_times (hr.mono (by decide)) R.b_times .nil pass0 (pa_cons (pe_meth (pv 0) R.cl R.t_times R.G_times (hr.mono (by decide)) R.b_times .nil pass0 (pa_cons (pv 1) (pa_cons (pv 2) pa_nil))) (pa_cons (pv 3) pa_nil))) (pe_meth (pv 0) R.cl R.t_times R.G_times (hr.mono (by decide)) R.b_times .nil pass0 (pa_cons (pv 1) (pa_cons (pe_meth (pv 0) R.cl R.t_times R.G_times (hr.mono (by decide)) R.b_times .nil pass0 (pa_cons (pv 2) (pa_cons (pv 3) pa_nil))) pa_nil))) (nomark _)) (pss_one (ps_ret pe_bl)) pss_nil) (pss_one (ps_ret (pe_cmpR (op_eqD hr.units) (pe_meth (pv 0) R.cl R.t_times R.G_times (hr.mono (by decide)) R.b_times .nil pass0 (pa_cons (pv 1) (pa_cons (pe_meth (pv 0) R.cl R.t_plus R.G_plus (hr.mono (by decide)) R.b_plus .nil pass0 (pa_cons (pv 2) (pa_cons (pv 3) pa_nil))) pa_nil))) (pe_meth (pv 0) R.cl R.t_plus R.G_plus (hr.mono (by decide)) R.b_plus .nil pass0 (pa_cons (pe_meth (pv 0) R.cl R.t_times R.G_times (hr.mono (by decide)) R.b_times .nil pass0 (pa_cons (pv 1) (pa_cons (pv 2) pa_nil))) (pa_cons (pe_meth (pv 0) R.cl R.t_times R.G_times (hr.mono (by decide)) R.b_times .nil pass0 (pa_cons (pv 1) (pa_cons (pv 3) pa_nil))) pa_nil))) (nomark _)))))))), ?_⟩
    -- the three weights
    refine ⟨_, rfl, _, _, _, rfl, hk s0, R.l_plus, _, rfl, _, rfl, _, _, _, _, _, _, _, rfl, ⟨⟨_, _, rfl, hk s0⟩, hx s0, hy s0, sa, sb, by omega⟩, fun v1 H1 q1 f1 => ?_⟩
    refine ⟨_, rfl, _, _, _, rfl, hk q1, R.l_times, _, rfl, _, rfl, _, _, _, _, _, _, _, rfl, ⟨⟨_, _, rfl, hk q1⟩, hy q1, hz q1, sb, sc, by omega⟩, fun v2 H2 q2 f2 => ?_⟩
    have s2 := q1.trans q2
    refine ⟨_, rfl, _, _, _, rfl, hk s2, R.l_plus, _, rfl, _, _, _, rfl, hk s2, R.l_times, _, rfl, _, rfl, _, _, _, _, _, _, _, rfl, ⟨⟨_, _, rfl, hk s2⟩, hx s2, hz s2, sa, sc, by omega⟩, fun v3 H3 q3 f3 => ?_⟩
    have s3 := s2.trans q3
    refine ⟨_, rfl, _, _, _, _, _, _, _, rfl, ⟨⟨_, _, rfl, hk s3⟩, f3, hy s3, wxz, sb, by omega⟩, fun v4 H4 q4 f4 => ?_⟩
    refine ⟨(by show 3 ≤ sizeLine; decide), fun l hl => ?_⟩
    have ql := same_upd (o := .lst [v1, v2, v4]) hl
    have s4 := (s3.trans q4).trans ql
    have g1 := R.same (((q2.trans q3).trans q4).trans ql) f1
    have g2 := R.same ((q3.trans q4).trans ql) f2
    have g4 := R.same ql f4
    have kl : (upd H4 l (.lst [v1, v2, v4])) l = some (.lst [v1, v2, v4]) := upd_same
    clear ql f1 f2 f3 f4 q1 q2 q3 q4 s2 s3 hl
    revert kl g1 g2 g4 s4
    generalize upd H4 l (.lst [v1, v2, v4]) = H5
    intro s5 g1 g2 g4 kl
    refine ⟨l, rfl, ⟨_, SqL.of kl⟩, for_list (K := K) (a := l) (xs := [v1, v2, v4]) (fun i σ H' => ∃ o, σ = [some (.ref p), some x, some y, some z, o] ∧ Same H5 H') ⟨_, rfl, Same.refl _⟩ (fun i σ H' _ ⟨_, _, q⟩ => SqL.of (q _ _ kl)) ?_ ?_⟩
    · rintro i v σ H' hi ⟨o, rfl, q⟩
      have hv : ∃ d, R.is H' v d := by
        rcases i with _ | _ | _ | i
        · cases hi; exact ⟨_, R.same q g1⟩
        · cases hi; exact ⟨_, R.same q g2⟩
        · cases hi; exact ⟨_, R.same q g4⟩
        · cases hi
      obtain ⟨d, hv⟩ := hv
      refine ⟨_, rfl, _, _, _, rfl, hk (s5.trans q), R.l_is_weight, _, rfl, _, _, _, rfl, ⟨⟨_, _, rfl, hk (s5.trans q)⟩, hv⟩, _, rfl, ?_⟩
      (try refine iteF ?_)
      exact ⟨_, rfl, q⟩
    · rintro σ H6 ⟨o, rfl, q⟩
      have s6 := s5.trans q
      clear g1 g2 g4 kl q s5
      -- plus(x, y) != plus(y, x)
      refine ⟨_, rfl, _, _, _, rfl, hk s6, R.l_plus, _, rfl, _, rfl, _, _, _, _, _, _, _, rfl, ⟨⟨_, _, rfl, hk s6⟩, hx s6, hy s6, sa, sb, by omega⟩, fun v1 H1 q1 f1 => ?_⟩
      have s1 := s6.trans q1
      refine ⟨_, rfl, _, _, _, rfl, hk s1, R.l_plus, _, rfl, _, rfl, _, _, _, _, _, _, _, rfl, ⟨⟨_, _, rfl, hk s1⟩, hy s1, hx s1, sb, sa, by omega⟩, fun v2 H2 q2 f2 => ?_⟩
      refine R.neD (R.same q2 f1) f2 (R.S.add_comm _ _) ⟨_, rfl, ?_⟩
      (try refine iteF ?_)
      have s2 := s1.trans q2
      clear f1 f2 q1 q2 s1 s6
      -- times(x, y) != times(y, x)
      refine ⟨_, rfl, _, _, _, rfl, hk s2, R.l_times, _, rfl, _, rfl, _, _, _, _, _, _, _, rfl, ⟨⟨_, _, rfl, hk s2⟩, hx s2, hy s2, sa, sb, by omega⟩, fun v1 H3 q1 f1 => ?_⟩
      have s1 := s2.trans q1
      refine ⟨_, rfl, _, _, _, rfl, hk s1, R.l_times, _, rfl, _, rfl, _, _, _, _, _, _, _, rfl, ⟨⟨_, _, rfl, hk s1⟩, hy s1, hx s1, sb, sa, by omega⟩, fun v2 H7 q2 f2 => ?_⟩
      refine R.neD (R.same q2 f1) f2 (R.S.mul_comm _ _) ⟨_, rfl, ?_⟩
      (try refine iteF ?_)
      have s3 := s1.trans q2
      clear f1 f2 q1 q2 s1 s2
      -- plus(plus(x, y), z) != plus(x, plus(y, z))
      refine ⟨_, rfl, _, _, _, rfl, hk s3, R.l_plus, _, rfl, _, _, _, rfl, hk s3, R.l_plus, _, rfl, _, rfl, _, _, _, _, _, _, _, rfl, ⟨⟨_, _, rfl, hk s3⟩, hx s3, hy s3, sa, sb, by omega⟩, fun v1 H8 q1 f1 => ?_⟩
      have s1 := s3.trans q1
      refine ⟨_, rfl, _, _, _, _, _, _, _, rfl, ⟨⟨_, _, rfl, hk s1⟩, f1, hz s1, zxy, sc, by omega⟩, fun v2 H9 q2 f2 => ?_⟩
      have s2 := s1.trans q2
      refine ⟨_, rfl, _, _, _, rfl, hk s2, R.l_plus, _, rfl, _, rfl, _, _, _, rfl, hk s2, R.l_plus, _, rfl, _, rfl, _, _, _, _, _, _, _, rfl, ⟨⟨_, _, rfl, hk s2⟩, hy s2, hz s2, sb, sc, by omega⟩, fun v3 H10 q3 f3 => ?_⟩
      have s4 := s2.trans q3
      refine ⟨_, _, _, _, _, _, _, rfl, ⟨⟨_, _, rfl, hk s4⟩, hx s4, f3, sa, zyz, by omega⟩, fun v4 H11 q4 f4 => ?_⟩
      refine R.neD (R.same (q3.trans q4) f2) f4 (R.S.add_assoc _ _ _) ⟨_, rfl, ?_⟩
      (try refine iteF ?_)
      have s5 := s4.trans q4
      clear f1 f2 f3 f4 q1 q2 q3 q4 s1 s2 s3 s4
      -- times(times(x, y), z) != times(x, times(y, z))
      refine ⟨_, rfl, _, _, _, rfl, hk s5, R.l_times, _, rfl, _, _, _, rfl, hk s5, R.l_times, _, rfl, _, rfl, _, _, _, _, _, _, _, rfl, ⟨⟨_, _, rfl, hk s5⟩, hx s5, hy s5, sa, sb, by omega⟩, fun v1 H12 q1 f1 => ?_⟩
      have s1 := s5.trans q1
      refine ⟨_, rfl, _, _, _, _, _, _, _, rfl, ⟨⟨_, _, rfl, hk s1⟩, f1, hz s1, wxy, sc, by omega⟩, fun v2 H13 q2 f2 => ?_⟩
      have s2 := s1.trans q2
      refine ⟨_, rfl, _, _, _, rfl, hk s2, R.l_times, _, rfl, _, rfl, _, _, _, rfl, hk s2, R.l_times, _, rfl, _, rfl, _, _, _, _, _, _, _, rfl, ⟨⟨_, _, rfl, hk s2⟩, hy s2, hz s2, sb, sc, by omega⟩, fun v3 H14 q3 f3 => ?_⟩
      have s4 := s2.trans q3
      refine ⟨_, _, _, _, _, _, _, rfl, ⟨⟨_, _, rfl, hk s4⟩, hx s4, f3, sa, wyz, by omega⟩, fun v4 H15 q4 f4 => ?_⟩
      refine R.neD (R.same (q3.trans q4) f2) f4 (R.S.mul_assoc _ _ _) ⟨_, rfl, ?_⟩
      (try refine iteF ?_)
      have s6 := s4.trans q4
      clear f1 f2 f3 f4 q1 q2 q3 q4 s1 s2 s4 s5
      -- times(x, plus(y, z)) == plus(times(x, y), times(x, z))
      refine ⟨_, rfl, _, _, _, rfl, hk s6, R.l_times, _, rfl, _, rfl, _, _, _, rfl, hk s6, R.l_plus, _, rfl, _, rfl, _, _, _, _, _, _, _, rfl, ⟨⟨_, _, rfl, hk s6⟩, hy s6, hz s6, sb, sc, by omega⟩, fun v1 H16 q1 f1 => ?_⟩
      have s1 := s6.trans q1
      refine ⟨_, _, _, _, _, _, _, rfl, ⟨⟨_, _, rfl, hk s1⟩, hx s1, f1, sa, zyz, by omega⟩, fun v2 H17 q2 f2 => ?_⟩
      have s2 := s1.trans q2
      refine ⟨_, rfl, _, _, _, rfl, hk s2, R.l_plus, _, rfl, _, _, _, rfl, hk s2, R.l_times, _, rfl, _, rfl, _, _, _, _, _, _, _, rfl, ⟨⟨_, _, rfl, hk s2⟩, hx s2, hy s2, sa, sb, by omega⟩, fun v3 H18 q3 f3 => ?_⟩
      have s3 := s2.trans q3
      refine ⟨_, rfl, _, _, _, rfl, hk s3, R.l_times, _, rfl, _, rfl, _, _, _, _, _, _, _, rfl, ⟨⟨_, _, rfl, hk s3⟩, hx s3, hz s3, sa, sc, by omega⟩, fun v4 H19 q4 f4 => ?_⟩
      have s4 := s3.trans q4
      refine ⟨_, _, _, _, _, _, _, rfl, ⟨⟨_, _, rfl, hk s4⟩, R.same q4 f3, f4, wxy, wxz, by omega⟩, fun v5 H20 q5 f5 => ?_⟩
      exact R.eqD (R.same ((q3.trans q4).trans q5) f2) f5 (R.S.distrib _ _ _) (k _ (s4.trans q5))
def sp_edges (P : Program) (w : World) (K : PySem.W.Frag) (mg : Str → Option Value) (base : Heap) : Sp := fun vs H Q _ => ∃ R : KindR P w K mg base, ∃ k x a, vs = [k, x] ∧ (KAt R.C R.fs H k ∧ R.is H x a ∧ R.S.sz 40 a) ∧ ∀ H', Same H H' → Q (.bl true) H'
theorem ok_law_edges (T : Txt K mg t) : FnOk P w K mg base CX0 5 t.law_edges t.d_law_edges ["_law_kind", "_law_x"] (sp_edges P w K mg base) := by
  refine T.F_law_edges.ok sc_law_edges (fun vs H Q E h => ?_) (fun cdv A outer s H vs Q E hr h => ?_)
  · obtain ⟨R, k, x, a, rfl, _⟩ := h
    rfl
  · obtain ⟨R, k0, x, a, rfl, ⟨⟨p, dx, rfl, hk0⟩, hx0, sa⟩, k⟩ := h
    have hk : ∀ {H' : Hp}, Same H H' → H' p = some (.ins R.C dx R.fs) := fun q => q _ _ hk0
    have hx : ∀ {H' : Hp}, Same H H' → R.is H' x a := fun q => R.same q hx0
    have s0 := Same.refl H
    have zz := R.S.sz_zero
    have zo := R.S.sz_one
    have zero_add : ∀ u, R.S.add R.S.zero u = u := fun u => by rw [R.S.add_comm]; exact R.S.add_zero u
    have one_mul : ∀ u, R.S.mul R.S.one u = u := fun u => by rw [R.S.mul_comm]; exact R.S.mul_one u
    have zero_mul : ∀ u, R.S.mul R.S.zero u = R.S.zero := fun u => by rw [R.S.mul_comm]; exact R.S.mul_zero u
    refine ⟨_, (pss_cons (ps_set (i := 2) sc_law_edges.nd rfl (Or.inl rfl) (pe_meth0 (pv 0) R.cl R.t_nought R.G_nought (hr.mono (by decide)) R.b_nought .nil pass0)) (pss_cons (ps_set (i := 3) sc_law_edges.nd rfl (Or.inl rfl) (pe_meth0 (pv 0) R.cl R.t_one R.G_one (hr.mono (by decide)) R.b_one .nil pass0)) (pss_cons (ps_if (PW.pt (pw_or (pt_cmpR (op_neD hr.units) (pe_meth (pv 0) R.cl R.t_plus R.G_plus (hr.mono (by decide)) R.b_plus .nil pass0 (pa_cons (pv 1) (pa_cons (pv 2) pa_nil))) (pv 1) (nomark _)) (pw_or (pt_cmpR (op_neD hr.units) (pe_meth (pv 0) R.cl R.t_plus R.G_plus (hr.mono (by decide)) R.b_plus .nil pass0 (pa_cons (pv 2) (pa_cons (pv 1) pa_nil))) (pv 1) (nomark _)) (pw_or (pt_cmpR (op_neD hr.units) (pe_meth (pv 0) R.cl R.t_times R.G_times (hr.mono (by decide)) R.b_times .nil pass0 (pa_cons (pv 3) (pa_cons (pv 1) pa_nil))) (pv 1) (nomark _)) (pw_or1 (pt_cmpR (op_neD hr.units) (pe_meth (pv 0) R.cl R.t_times R.G_times (hr.mono (by decide)) R.b_times .nil pass0 (pa_cons (pv 1) (pa_cons (pv 3) pa_nil))) (pv 1) (nomark _))))))) (pss_one (ps_ret pe_bl)) pss_nil) (pss_one (ps_ret (pe_and (pe_cmpR (op_eqD hr.units) (pe_meth (pv 0) R.cl R.t_times R.G_times (hr.mono (by decide)) R.b_times .nil pass0 (pa_cons (pv 1) (pa_cons (pv 2) pa_nil))) (pv 2) (nomark _)) (pe_and (pe_cmpR (op_eqD hr.units) (pe_meth (pv 0) R.cl R.t_times R.G_times (hr.mono (by decide)) R.b_times .nil pass0 (pa_cons (pv 2) (pa_cons (pv 1) pa_nil))) (pv 2) (nomark _)) (pe_one (pe_cmpR (op_neD hr.units) (pv 2) (pv 3) (nomark _)))))))))), ?_⟩
    refine ⟨_, rfl, _, _, _, rfl, hk s0, R.l_nought, _, rfl, ⟨_, _, rfl, hk s0⟩, fun vn H1 q1 fn => ?_⟩
    refine ⟨_, rfl, _, _, _, rfl, hk q1, R.l_one, _, rfl, ⟨_, _, rfl, hk q1⟩, fun vo H2 q2 fo => ?_⟩
    have s2 := q1.trans q2
    have hn : ∀ {H' : Hp}, Same H2 H' → R.is H' vn R.S.zero := fun q => R.same (q2.trans q) fn
    have ho : ∀ {H' : Hp}, Same H2 H' → R.is H' vo R.S.one := fun q => R.same q fo
    have hk' : ∀ {H' : Hp}, Same H2 H' → H' p = some (.ins R.C dx R.fs) := fun q => hk (s2.trans q)
    have hx' : ∀ {H' : Hp}, Same H2 H' → R.is H' x a := fun q => hx (s2.trans q)
    have k' : ∀ H', Same H2 H' → Q (.bl true) H' := fun H' q => k H' (s2.trans q)
    have e0 := Same.refl H2
    clear hk hx fn fo q1 q2 k s2 s0 hk0 hx0
    refine ⟨_, rfl, _, _, _, rfl, hk' e0, R.l_plus, _, rfl, _, rfl, _, _, _, _, _, _, _, rfl, ⟨⟨_, _, rfl, hk' e0⟩, hx' e0, hn e0, sa, zz, by omega⟩, fun v1 H3 e1 f1 => ?_⟩
    refine ⟨_, rfl, R.neD f1 (hx' e1) (R.S.add_zero _) ⟨_, rfl, ?_⟩⟩
    (try refine iteF ?_)
    refine ⟨_, rfl, _, _, _, rfl, hk' e1, R.l_plus, _, rfl, _, rfl, _, _, _, _, _, _, _, rfl, ⟨⟨_, _, rfl, hk' e1⟩, hn e1, hx' e1, zz, sa, by omega⟩, fun v2 H4 q2 f2 => ?_⟩
    have e2 := e1.trans q2
    refine ⟨_, rfl, R.neD f2 (hx' e2) (zero_add _) ⟨_, rfl, ?_⟩⟩
    (try refine iteF ?_)
    refine ⟨_, rfl, _, _, _, rfl, hk' e2, R.l_times, _, rfl, _, rfl, _, _, _, _, _, _, _, rfl, ⟨⟨_, _, rfl, hk' e2⟩, ho e2, hx' e2, zo, sa, by omega⟩, fun v3 H5 q3 f3 => ?_⟩
    have e3 := e2.trans q3
    refine ⟨_, rfl, R.neD f3 (hx' e3) (one_mul _) ⟨_, rfl, ?_⟩⟩
    (try refine iteF ?_)
    refine ⟨_, rfl, _, _, _, rfl, hk' e3, R.l_times, _, rfl, _, rfl, _, _, _, _, _, _, _, rfl, ⟨⟨_, _, rfl, hk' e3⟩, hx' e3, ho e3, sa, zo, by omega⟩, fun v4 H6 q4 f4 => ?_⟩
    have e4 := e3.trans q4
    refine ⟨_, rfl, R.neD f4 (hx' e4) (R.S.mul_one _) ⟨_, rfl, ?_⟩⟩
    (try refine iteF ?_)
    refine ⟨_, rfl, _, _, _, rfl, hk' e4, R.l_times, _, rfl, _, rfl, _, _, _, _, _, _, _, rfl, ⟨⟨_, _, rfl, hk' e4⟩, hx' e4, hn e4, sa, zz, by omega⟩, fun v5 H7 q5 f5 => ?_⟩
    have e5 := e4.trans q5
    refine ⟨_, rfl, R.eqD f5 (hn e5) (R.S.mul_zero _) ⟨_, rfl, ?_⟩⟩
    (try refine iteT ?_)
    refine ⟨_, rfl, _, _, _, rfl, hk' e5, R.l_times, _, rfl, _, rfl, _, _, _, _, _, _, _, rfl, ⟨⟨_, _, rfl, hk' e5⟩, hn e5, hx' e5, zz, sa, by omega⟩, fun v6 H8 q6 f6 => ?_⟩
    have e6 := e5.trans q6
    refine ⟨_, rfl, R.eqD f6 (hn e6) (zero_mul _) ⟨_, rfl, ?_⟩⟩
    (try refine iteT ?_)
    refine ⟨_, rfl, _, rfl, R.neT (hn e6) (ho e6) R.S.zo ?_⟩
    exact k' _ e6
theorem nine (c : Int) : ∃ p : Int, atI ([2, 3, 5, 7, 11, 13, 101, 65537, 999983].map V.int) (c.fmod 9) = some (V.int p) ∧ (2 ≤ p ∧ p ≤ 1000000 ∧ isP p = true) := by
  have h := fm_in c 9 (by decide)
  rcases (by omega : c.fmod 9 = 0 ∨ c.fmod 9 = 1 ∨ c.fmod 9 = 2 ∨ c.fmod 9 = 3 ∨ c.fmod 9 = 4 ∨ c.fmod 9 = 5 ∨ c.fmod 9 = 6 ∨ c.fmod 9 = 7 ∨ c.fmod 9 = 8) with e | e | e | e | e | e | e | e | e
  · exact ⟨2, by rw [e]; rfl, by decide, by decide, p2⟩
  · exact ⟨3, by rw [e]; rfl, by decide, by decide, p3⟩
  · exact ⟨5, by rw [e]; rfl, by decide, by decide, p5⟩
  · exact ⟨7, by rw [e]; rfl, by decide, by decide, p7⟩
  · exact ⟨11, by rw [e]; rfl, by decide, by decide, p11⟩
  · exact ⟨13, by rw [e]; rfl, by decide, by decide, p13⟩
  · exact ⟨101, by rw [e]; rfl, by decide, by decide, p101⟩
  · exact ⟨65537, by rw [e]; rfl, by decide, by decide, p65537⟩
  · exact ⟨999983, by rw [e]; rfl, by decide, by decide, p999983⟩
/-- the four kinds in a list -/
structure Four (t : Adr) (H : Hp) (l : Addr) (p : Int) (x1 x2 x3 x4 : Addr) : Prop where
  l : H l = some (.lst [.ref x1, .ref x2, .ref x3, .ref x4])
  a : KAt t.Fractions [] H (.ref x1)
  b : KAt t.Residues (pfs p) H (.ref x2)
  c : KAt t.Costs [] H (.ref x3)
  d : KAt t.Truths [] H (.ref x4)
theorem Four.same {H H' : Hp} {l : Addr} {p : Int} {x1 x2 x3 x4 : Addr} (e : Same H H') (h : Four t H l p x1 x2 x3 x4) : Four t H' l p x1 x2 x3 x4 := ⟨e _ _ h.l, h.a.same e, h.b.same e, h.c.same e, h.d.same e⟩
def sp_kinds (t : Adr) : Sp := fun vs H Q _ => ∃ c, vs = [.int c] ∧ ∀ q l p x1 x2 x3 x4 H', (2 ≤ p ∧ p ≤ 1000000) → Same H H' → Four t H' l p x1 x2 x3 x4 → H' q = some (.tup [.ref l, .int p]) → Q (.ref q) H'
theorem ok_law_kinds (T : Txt K mg t) : FnOk P w K mg base CX0 4 t.law_kinds t.d_law_kinds ["_law_cell"] (sp_kinds t) := by
  refine T.F_law_kinds.ok sc_law_kinds (fun vs H Q E h => ?_) (fun cdv A outer s H vs Q E hr h => ?_)
  · obtain ⟨c, rfl, _⟩ := h
    rfl
  · obtain ⟨c, rfl, k⟩ := h
    obtain ⟨p, ap, hp⟩ := nine c
    refine ⟨_, (pss_cons (ps_set (i := 1) sc_law_kinds.nd rfl (Or.inl rfl) (pe_ix ix_list (pe_lst (pa_cons pe_int (pa_cons pe_int (pa_cons pe_int (pa_cons pe_int (pa_cons pe_int (pa_cons pe_int (pa_cons pe_int (pa_cons pe_int (pa_cons pe_int pa_nil)))))))))) (pe_op op_modN (pv 0) pe_int) (fun _ _ => rfl))) (pss_one (ps_ret (pe_tup (pa_cons (pe_lst (pa_cons (pe_makeO T.M_Fractions rfl T.m_Fractions) (pa_cons (pe_make T.M_Residues (ok_Residues___init__ T) (hr.mono (by decide)) rfl T.m_Residues T.b_Residues___init__ .nil pass0 (pa_cons (pv 1) pa_nil)) (pa_cons (pe_makeO T.M_Costs rfl T.m_Costs) (pa_cons (pe_makeO T.M_Truths rfl T.m_Truths) pa_nil))))) (pa_cons (pv 1) pa_nil)))))), ?_⟩
    refine ⟨(by show 9 ≤ sizeLine; decide), fun l0 h0 => ?_⟩
    refine ⟨_, rfl, _, _, rfl, rfl, (show (9 : Int) ≠ 0 by decide), _, _, _, _, rfl, rfl, SqL.of upd_same, ap, ?_⟩
    intro x1 d1 n1 m1 e1
    refine ⟨_, rfl, ?_⟩
    intro x2 d2 n2 m2 e2
    refine ⟨_, _, _, rfl, hp, upd_same, rfl, ?_⟩
    rw [upd_upd]
    intro x3 d3 n3 m3 e3 x4 d4 n4 m4 e4
    refine ⟨(by show 4 ≤ sizeLine; decide), fun l hl => ?_⟩
    refine ⟨_, rfl, (by show 2 ≤ sizeLine; decide), fun q hq => ?_⟩
    have s0 := same_upd (o := .lst ([2, 3, 5, 7, 11, 13, 101, 65537, 999983].map V.int)) h0
    have s1 := same_made (C := t.Fractions) (fs := []) n1 m1
    have s2 := same_made (C := t.Residues) (fs := pfs p) n2 m2
    have s3 := same_made (C := t.Costs) (fs := []) n3 m3
    have s4 := same_made (C := t.Truths) (fs := []) n4 m4
    have s5 := same_upd (o := .lst [.ref x1, .ref x2, .ref x3, .ref x4]) hl
    have s6 := same_upd (o := .tup [.ref l, .int p]) hq
    refine k q l p x1 x2 x3 x4 _ ⟨hp.1, hp.2.1⟩ ((((((s0.trans s1).trans s2).trans s3).trans s4).trans s5).trans s6) ⟨s6 _ _ upd_same, ?_, ?_, ?_, ?_⟩ upd_same
    · exact ⟨_, d1, rfl, ((((s2.trans s3).trans s4).trans s5).trans s6) _ _ upd_same⟩
    · exact ⟨_, d2, rfl, (((s3.trans s4).trans s5).trans s6) _ _ upd_same⟩
    · exact ⟨_, d3, rfl, ((s4.trans s5).trans s6) _ _ upd_same⟩
    · exact ⟨_, d4, rfl, (s5.trans s6) _ _ upd_same⟩
theorem way_of (T : Txt K mg t) {H : Hp} {l x1 x2 x3 x4 : Addr} {p : Int} (F : Four t H l p x1 x2 x3 x4) (hp : 2 ≤ p ∧ p ≤ 1000000) (j : Nat) (hj : j < 4) :
    ∃ (R : KindR P w K mg base) (xk : Addr), atI [V.ref x1, V.ref x2, V.ref x3, V.ref x4] (0 + (j : Int)) = some (.ref xk) ∧ KAt R.C R.fs H (.ref xk) ∧
      ∀ (c : Int) (H1 : Hp) (Q : VK) (E : XK), (∀ v H' a, Same H1 H' → R.is H' v a → R.S.sz 40 a → Q v H') → sp_weight [.int (0 + (j : Int)), .int p, .int c] H1 Q E := by
  rcases j with _ | _ | _ | _ | j
  · exact ⟨R_fr T, x1, rfl, F.a, fun c H1 Q E h => ⟨_, _, _, rfl, .inl ⟨rfl, fun v H' e x hx hz => h v H' x e hx hz⟩⟩⟩
  · exact ⟨R_re T p hp.1 hp.2, x2, rfl, F.b, fun c H1 Q E h => ⟨_, _, _, rfl, .inr (.inl ⟨rfl, by omega, fun x => h _ _ x (Same.refl _) rfl trivial⟩)⟩⟩
  · exact ⟨R_co T, x3, rfl, F.c, fun c H1 Q E h => ⟨_, _, _, rfl, .inr (.inr (.inl ⟨rfl, fun x => h _ _ x (Same.refl _) rfl trivial⟩))⟩⟩
  · exact ⟨R_tr T, x4, rfl, F.d, fun c H1 Q E h => ⟨_, _, _, rfl, .inr (.inr (.inr ⟨rfl, fun x => h _ _ x (Same.refl _) rfl trivial⟩))⟩⟩
  · omega
def sp_law (K : PySem.W.Frag) : Sp := fun vs H Q _ => ∃ (a : Addr) (ns : List Int), vs = [.ref a] ∧ SqL K H a (ns.map V.int) ∧ ns.length ≤ 63 ∧ ∀ H', Q (.bl true) H'
theorem ok_law (T : Txt K mg t) : FnOk P w K mg base CX0 6 t.law t.d_law ["_law_script"] (sp_law K) := by
  refine T.F_law.ok sc_law (fun vs H Q E h => ?_) (fun cdv A outer s H vs Q E hr h => ?_)
  · obtain ⟨a, ns, rfl, _⟩ := h
    rfl
  · obtain ⟨a, ns, rfl, hS, hlen, k⟩ := h
    refine ⟨_, (pss_cons (ps_set (i := 1) sc_law.nd rfl (Or.inl rfl) (pe_op op_cat (pe_slice sl_list (pv 0) po_none (po_some pe_int)) (pe_lst (pa_cons pe_int (pa_cons (pe_op op_sub pe_int pe_int) (pa_cons pe_int (pa_cons pe_int pa_nil))))))) (pss_cons (ps_asg (pe_call (ok_law_kinds T) (hr.mono (by decide)) rfl T.m_law_kinds T.F_law_kinds.kp T.b_law_kinds .nil pass0 (pa_cons (pe_ix ix_list (pv 1) pe_int (fun _ _ => rfl)) pa_nil)) (pg_tup rfl (pgs_cons (pg_name (i := 2) sc_law.nd rfl (Or.inl rfl)) (pgs_cons (pg_name (i := 3) sc_law.nd rfl (Or.inl rfl)) pgs_nil)))) (pss_cons (ps_for PassesOwn.never rfl (pi_range1 rfl T.z_range (pa_cons (pe_op op_sub (pe_callB call_len (by rfl) T.z_len PySem.boot_len (pa_cons (pv 1) pa_nil)) pe_int) pa_nil)) (pg_name (i := 4) sc_law.nd rfl (Or.inl rfl)) (pss_one (ps_for PassesOwn.never rfl (pi_range1 rfl T.z_range (pa_cons pe_int pa_nil)) (pg_name (i := 5) sc_law.nd rfl (Or.inl rfl)) (pss_cons (ps_set (i := 6) sc_law.nd rfl (Or.inl rfl) (pe_call (ok_law_weight T) (hr.mono (by decide)) rfl T.m_law_weight T.F_law_weight.kp T.b_law_weight .nil pass0 (pa_cons (pv 5) (pa_cons (pv 3) (pa_cons (pe_ix ix_list (pv 1) (pv 4) (fun _ _ => rfl)) pa_nil))))) (pss_cons (ps_set (i := 7) sc_law.nd rfl (Or.inl rfl) (pe_call (ok_law_weight T) (hr.mono (by decide)) rfl T.m_law_weight T.F_law_weight.kp T.b_law_weight .nil pass0 (pa_cons (pv 5) (pa_cons (pv 3) (pa_cons (pe_ix ix_list (pv 1) (pe_op op_add (pv 4) pe_int) (fun _ _ => rfl)) pa_nil))))) (pss_cons (ps_set (i := 8) sc_law.nd rfl (Or.inl rfl) (pe_call (ok_law_weight T) (hr.mono (by decide)) rfl T.m_law_weight T.F_law_weight.kp T.b_law_weight .nil pass0 (pa_cons (pv 5) (pa_cons (pv 3) (pa_cons (pe_ix ix_list (pv 1) (pe_op op_add (pv 4) pe_int) (fun _ _ => rfl)) pa_nil))))) (pss_one (ps_if (PW.pt (pw_or (pt_not (pt_val (pe_call (ok_law_three T) (hr.mono (by decide)) rfl T.m_law_three T.F_law_three.kp T.b_law_three .nil pass0 (pa_cons (pe_ix ix_list (pv 2) (pv 5) (fun _ _ => rfl)) (pa_cons (pv 6) (pa_cons (pv 7) (pa_cons (pv 8) pa_nil))))))) (pw_or1 (pt_not (pt_val (pe_call (ok_law_edges T) (hr.mono (by decide)) rfl T.m_law_edges T.F_law_edges.kp T.b_law_edges .nil pass0 (pa_cons (pe_ix ix_list (pv 2) (pv 5) (fun _ _ => rfl)) (pa_cons (pv 6) pa_nil)))))))) (pss_one (ps_ret pe_bl)) pss_nil)))))))) (pss_one (ps_ret pe_bl))))), ?_⟩
    -- the cells
    refine ⟨_, rfl, _, rfl, _, _, rfl, hS, fun c1 hc1 => ?_⟩
    refine ⟨_, _, rfl, rfl, (by show 4 ≤ sizeLine; decide), fun c2 hc2 => ?_⟩
    have b1 : (ns.map V.int).length ≤ 63 := by rw [List.length_map]; exact hlen
    have b2 := cutV_length (ns.map V.int) none (some 40)
    refine ⟨_, _, _, _, rfl, rfl, (same_upd hc2) _ _ upd_same, upd_same, (by show _ + 4 ≤ sizeLine; have : 1000 < sizeLine := small1000 (Nat.le_refl _); omega), fun c3 hc3 => ?_⟩
    have ec : cutV (ns.map V.int) none (some 40) ++ [V.int 4, V.int (0 - 9), V.int 10, V.int 0] = (ns.take 40 ++ [4, -9, 10, 0]).map V.int := by
      rw [show (40 : Int) = ((40 : Nat) : Int) from rfl, cut_take, List.map_append, List.map_take]; rfl
    have kc := upd_same (H := upd (upd H c1 (.lst (cutV (ns.map V.int) none (some 40)))) c2 (.lst [.int 4, .int (0 - 9), .int 10, .int 0])) (a := c3) (o := .lst (cutV (ns.map V.int) none (some 40) ++ [.int 4, .int (0 - 9), .int 10, .int 0]))
    clear hc3 hc2 hc1
    revert kc
    show ∀ (kc : _ = _), _
    generalize upd (upd (upd H c1 (.lst (cutV (ns.map V.int) none (some 40)))) c2 (.lst [.int 4, .int (0 - 9), .int 10, .int 0])) c3 (.lst (cutV (ns.map V.int) none (some 40) ++ [.int 4, .int (0 - 9), .int 10, .int 0])) = Hc
    intro kc
    rw [ec] at kc
    have hcl : 4 ≤ (ns.take 40 ++ [4, -9, 10, 0] : List Int).length ∧ (ns.take 40 ++ [4, -9, 10, 0] : List Int).length ≤ 67 := by
      rw [List.length_append, List.length_take]; show 4 ≤ _ + 4 ∧ _ + 4 ≤ 67; omega
    clear ec
    revert kc hcl
    generalize (ns.take 40 ++ [4, -9, 10, 0] : List Int) = cs
    rintro kc ⟨hc1, hc2⟩
    -- the kinds
    obtain ⟨nz, gz⟩ := cells_at (ns := cs) (i := 0) (by omega)
    refine ⟨_, rfl, _, _, _, _, rfl, rfl, SqL.of kc, int_at (i := 0) rfl gz, _, rfl, fun q l p x1 x2 x3 x4 Hk hp sk F hq => ?_⟩
    refine ⟨q, _, rfl, SqT.of hq, rfl, _, _, rfl, _, _, rfl, rfl, ?_⟩
    have kck := sk _ _ kc
    clear hq sk kc
    have lc : LenV K (.ref c3) Hk (cs.map V.int).length := .inl ⟨_, SqL.of kck, rfl⟩
    rw [List.length_map] at lc
    refine ⟨_, rfl, _, _, rfl, lc, _, _, rfl, rfl, _, rfl, (by omega), (by omega), for_range (lo := 0) (n := ((cs.length : Int) - 2).toNat) (fun i σ H3 => ∃ v4 v5 v6 v7 v8, σ = [some (.ref a), some (.ref c3), some (.ref l), some (.int p), v4, v5, v6, v7, v8] ∧ Same Hk H3) ⟨_, _, _, _, _, rfl, Same.refl _⟩ ?_ ?_⟩
    · rintro i σ H3 hi ⟨v4, v5, v6, v7, v8, rfl, q3⟩
      obtain ⟨n0, g0⟩ := cells_at (ns := cs) (i := i) (by omega)
      obtain ⟨n1, g1⟩ := cells_at (ns := cs) (i := i + 1) (by omega)
      obtain ⟨n2, g2⟩ := cells_at (ns := cs) (i := i + 2) (by omega)
      have a0 : atI (cs.map V.int) (0 + (i : Int)) = some (V.int n0) := int_at (by omega) g0
      have a1 : atI (cs.map V.int) (0 + (i : Int) + 1) = some (V.int n1) := int_at (by omega) g1
      have a2 : atI (cs.map V.int) (0 + (i : Int) + 2) = some (V.int n2) := int_at (by omega) g2
      clear lc hc1 hc2 g0 g1 g2 gz hi hS hlen b1 b2
      refine ⟨_, rfl, (by decide), (by decide), for_range (lo := 0) (n := (4 : Int).toNat) (fun j σ H4 => ∃ v5 v6 v7 v8, σ = [some (.ref a), some (.ref c3), some (.ref l), some (.int p), some (.int (0 + (i : Int))), v5, v6, v7, v8] ∧ Same Hk H4) ⟨_, _, _, _, rfl, q3⟩ ?_ ?_⟩
      · rintro j σ H4 hj ⟨v5, v6, v7, v8, rfl, q4⟩
        obtain ⟨R, xk, ak, hk0, hw⟩ := way_of (P := P) (w := w) (base := base) T F hp j hj
        have hk : ∀ {H' : Hp}, Same Hk H' → KAt R.C R.fs H' (.ref xk) := fun e => hk0.same e
        have kc' : ∀ {H' : Hp}, Same Hk H' → H' c3 = some (.lst (cs.map V.int)) := fun e => e _ _ kck
        refine ⟨_, rfl, _, rfl, _, rfl, _, rfl, _, _, _, _, rfl, rfl, SqL.of (kc' q4), a0, hw n0 H4 _ E0 fun vx H5 ax q5 fx zx => ?_⟩
        have s5 := q4.trans q5
        refine ⟨_, rfl, _, rfl, _, rfl, _, rfl, _, _, rfl, rfl, _, _, _, _, rfl, rfl, SqL.of (kc' s5), a1, hw n1 H5 _ E0 fun vy H6 ay q6 fy zy => ?_⟩
        have s6 := s5.trans q6
        refine ⟨_, rfl, _, rfl, _, rfl, _, rfl, _, _, rfl, rfl, _, _, _, _, rfl, rfl, SqL.of (kc' s6), a2, hw n2 H6 _ E0 fun vz H7 az q7 fz zz => ?_⟩
        have s7 := s6.trans q7
        have fx7 := R.same (q6.trans q7) fx
        have fy7 := R.same q7 fy
        clear s5 s6 q5 q6 q7 fx fy hw
        refine ⟨_, rfl, _, rfl, _, _, _, _, rfl, rfl, SqL.of (s7 _ _ F.l), ak, _, rfl, _, rfl, _, rfl, R, _, _, _, _, _, _, _, rfl, ⟨hk s7, fx7, fy7, fz, zx, zy, zz⟩, fun H8 q8 => ⟨_, rfl, ?_⟩⟩
        (try refine iteF ?_)
        have s8 := s7.trans q8
        refine ⟨_, rfl, _, rfl, _, _, _, _, rfl, rfl, SqL.of (s8 _ _ F.l), ak, _, rfl, R, _, _, _, rfl, ⟨hk s8, R.same q8 fx7, zx⟩, fun H9 q9 => ⟨_, rfl, ?_⟩⟩
        (try refine iteF ?_)
        exact ⟨_, _, _, _, rfl, s8.trans q9⟩
      · rintro σ H4 ⟨v5, v6, v7, v8, rfl, q4⟩
        exact ⟨_, _, _, _, _, rfl, q4⟩
    · rintro σ H3 ⟨v4, v5, v6, v7, v8, rfl, q3⟩
      exact k H3
theorem law_binds (T : Txt K mg t) : ∀ (s : Shared) (u : Value), BindsTo s t.d_law ⟨[u], []⟩ [("_law_script", u)] := by
  obtain ⟨oc, od, kV, doc, pm, an, cdv, ct, osl, e, _, _⟩ := T.F_law.ex
  rw [e]
  exact fun s u => .of_eq rfl
end
theorem txt_mk {K : PySem.W.Frag} {h : Heap} {mg : Str → Option Value} (X : K.In h) (G : h.Ns mainGlobals mg) {a_Truths a_Costs a_Residues a_Fractions a_is_whole a_divisor a_fraction a_is_prime a_Fractions_nought a_Fractions_one a_Fractions_plus a_Fractions_times a_Fractions_is_weight a_Residues___init__ a_Residues_nought a_Residues_one a_Residues_plus a_Residues_times a_Residues_is_weight a_Costs_nought a_Costs_one a_Costs_plus a_Costs_times a_Costs_is_weight a_Truths_nought a_Truths_one a_Truths_plus a_Truths_times a_Truths_is_weight a_law_divisor a_law_low a_law_kinds a_law_weight a_law_three a_law_edges a_law : Addr} {oc_is_whole kV_is_whole dc_is_whole pm_is_whole cd_is_whole ct_is_whole oc_divisor kV_divisor dc_divisor pm_divisor cd_divisor ct_divisor oc_fraction kV_fraction dc_fraction pm_fraction cd_fraction ct_fraction oc_is_prime kV_is_prime dc_is_prime pm_is_prime cd_is_prime ct_is_prime oc_Fractions_nought kV_Fractions_nought dc_Fractions_nought pm_Fractions_nought cd_Fractions_nought ct_Fractions_nought oc_Fractions_one kV_Fractions_one dc_Fractions_one pm_Fractions_one cd_Fractions_one ct_Fractions_one oc_Fractions_plus kV_Fractions_plus dc_Fractions_plus pm_Fractions_plus cd_Fractions_plus ct_Fractions_plus oc_Fractions_times kV_Fractions_times dc_Fractions_times pm_Fractions_times cd_Fractions_times ct_Fractions_times oc_Fractions_is_weight kV_Fractions_is_weight dc_Fractions_is_weight pm_Fractions_is_weight cd_Fractions_is_weight ct_Fractions_is_weight oc_Residues___init__ kV_Residues___init__ dc_Residues___init__ pm_Residues___init__ cd_Residues___init__ ct_Residues___init__ oc_Residues_nought kV_Residues_nought dc_Residues_nought pm_Residues_nought cd_Residues_nought ct_Residues_nought oc_Residues_one kV_Residues_one dc_Residues_one pm_Residues_one cd_Residues_one ct_Residues_one oc_Residues_plus kV_Residues_plus dc_Residues_plus pm_Residues_plus cd_Residues_plus ct_Residues_plus oc_Residues_times kV_Residues_times dc_Residues_times pm_Residues_times cd_Residues_times ct_Residues_times oc_Residues_is_weight kV_Residues_is_weight dc_Residues_is_weight pm_Residues_is_weight cd_Residues_is_weight ct_Residues_is_weight oc_Costs_nought kV_Costs_nought dc_Costs_nought pm_Costs_nought cd_Costs_nought ct_Costs_nought oc_Costs_one kV_Costs_one dc_Costs_one pm_Costs_one cd_Costs_one ct_Costs_one oc_Costs_plus kV_Costs_plus dc_Costs_plus pm_Costs_plus cd_Costs_plus ct_Costs_plus oc_Costs_times kV_Costs_times dc_Costs_times pm_Costs_times cd_Costs_times ct_Costs_times oc_Costs_is_weight kV_Costs_is_weight dc_Costs_is_weight pm_Costs_is_weight cd_Costs_is_weight ct_Costs_is_weight oc_Truths_nought kV_Truths_nought dc_Truths_nought pm_Truths_nought cd_Truths_nought ct_Truths_nought oc_Truths_one kV_Truths_one dc_Truths_one pm_Truths_one cd_Truths_one ct_Truths_one oc_Truths_plus kV_Truths_plus dc_Truths_plus pm_Truths_plus cd_Truths_plus ct_Truths_plus oc_Truths_times kV_Truths_times dc_Truths_times pm_Truths_times cd_Truths_times ct_Truths_times oc_Truths_is_weight kV_Truths_is_weight dc_Truths_is_weight pm_Truths_is_weight cd_Truths_is_weight ct_Truths_is_weight oc_law_divisor kV_law_divisor dc_law_divisor pm_law_divisor cd_law_divisor ct_law_divisor oc_law_low kV_law_low dc_law_low pm_law_low cd_law_low ct_law_low oc_law_kinds kV_law_kinds dc_law_kinds pm_law_kinds cd_law_kinds ct_law_kinds oc_law_weight kV_law_weight dc_law_weight pm_law_weight cd_law_weight ct_law_weight oc_law_three kV_law_three dc_law_three pm_law_three cd_law_three ct_law_three oc_law_edges kV_law_edges dc_law_edges pm_law_edges cd_law_edges ct_law_edges oc_law kV_law dc_law pm_law cd_law ct_law : Value} {od_is_whole an_is_whole od_divisor an_divisor od_fraction an_fraction od_is_prime an_is_prime od_Fractions_nought an_Fractions_nought od_Fractions_one an_Fractions_one od_Fractions_plus an_Fractions_plus od_Fractions_times an_Fractions_times od_Fractions_is_weight an_Fractions_is_weight od_Residues___init__ an_Residues___init__ od_Residues_nought an_Residues_nought od_Residues_one an_Residues_one od_Residues_plus an_Residues_plus od_Residues_times an_Residues_times od_Residues_is_weight an_Residues_is_weight od_Costs_nought an_Costs_nought od_Costs_one an_Costs_one od_Costs_plus an_Costs_plus od_Costs_times an_Costs_times od_Costs_is_weight an_Costs_is_weight od_Truths_nought an_Truths_nought od_Truths_one an_Truths_one od_Truths_plus an_Truths_plus od_Truths_times an_Truths_times od_Truths_is_weight an_Truths_is_weight od_law_divisor an_law_divisor od_law_low an_law_low od_law_kinds an_law_kinds od_law_weight an_law_weight od_law_three an_law_three od_law_edges an_law_edges od_law an_law : Option Addr} {sl_is_whole sl_divisor sl_fraction sl_is_prime sl_Fractions_nought sl_Fractions_one sl_Fractions_plus sl_Fractions_times sl_Fractions_is_weight sl_Residues___init__ sl_Residues_nought sl_Residues_one sl_Residues_plus sl_Residues_times sl_Residues_is_weight sl_Costs_nought sl_Costs_one sl_Costs_plus sl_Costs_times sl_Costs_is_weight sl_Truths_nought sl_Truths_one sl_Truths_plus sl_Truths_times sl_Truths_is_weight sl_law_divisor sl_law_low sl_law_kinds sl_law_weight sl_law_three sl_law_edges sl_law : Array (Option Value)}
    (n_Truths : PySem.W.nsIn K mainGlobals "Truths" = some (some (.ref a_Truths)))
    (pg_Truths : PySem.W.plainGet K a_Truths Str.empty = true)
    (hd_Truths : PySem.W.hasDictIn K a_Truths = true)
    (po_Truths : PySem.W.plainOver K a_Truths = true)
    (sa_Truths : PySem.W.findIn K (.ref a_Truths) "__setattr__" = some (some (.builtin "object.__setattr__")))
    (mk_Truths : PySem.W.makesIn K a_Truths = true)
    (kp_Truths : PySem.W.keepIn K (.ref a_Truths) = true)
    (in_Truths : PySem.W.findIn K (.ref a_Truths) "__init__" = some (some (.builtin "object.__init__")))
    (n_Costs : PySem.W.nsIn K mainGlobals "Costs" = some (some (.ref a_Costs)))
    (pg_Costs : PySem.W.plainGet K a_Costs Str.empty = true)
    (hd_Costs : PySem.W.hasDictIn K a_Costs = true)
    (po_Costs : PySem.W.plainOver K a_Costs = true)
    (sa_Costs : PySem.W.findIn K (.ref a_Costs) "__setattr__" = some (some (.builtin "object.__setattr__")))
    (mk_Costs : PySem.W.makesIn K a_Costs = true)
    (kp_Costs : PySem.W.keepIn K (.ref a_Costs) = true)
    (in_Costs : PySem.W.findIn K (.ref a_Costs) "__init__" = some (some (.builtin "object.__init__")))
    (n_Residues : PySem.W.nsIn K mainGlobals "Residues" = some (some (.ref a_Residues)))
    (pg_Residues : PySem.W.plainGet K a_Residues Str.empty = true)
    (hd_Residues : PySem.W.hasDictIn K a_Residues = true)
    (po_Residues : PySem.W.plainOver K a_Residues = true)
    (sa_Residues : PySem.W.findIn K (.ref a_Residues) "__setattr__" = some (some (.builtin "object.__setattr__")))
    (mk_Residues : PySem.W.makesIn K a_Residues = true)
    (kp_Residues : PySem.W.keepIn K (.ref a_Residues) = true)
    (n_Fractions : PySem.W.nsIn K mainGlobals "Fractions" = some (some (.ref a_Fractions)))
    (pg_Fractions : PySem.W.plainGet K a_Fractions Str.empty = true)
    (hd_Fractions : PySem.W.hasDictIn K a_Fractions = true)
    (po_Fractions : PySem.W.plainOver K a_Fractions = true)
    (sa_Fractions : PySem.W.findIn K (.ref a_Fractions) "__setattr__" = some (some (.builtin "object.__setattr__")))
    (mk_Fractions : PySem.W.makesIn K a_Fractions = true)
    (kp_Fractions : PySem.W.keepIn K (.ref a_Fractions) = true)
    (in_Fractions : PySem.W.findIn K (.ref a_Fractions) "__init__" = some (some (.builtin "object.__init__")))
    (n_is_whole : PySem.W.nsIn K mainGlobals "is_whole" = some (some (.ref a_is_whole)))
    (l_is_whole : K.lookup a_is_whole = some ⟨oc_is_whole, od_is_whole, .func (PySem.W.fnOf "is_whole" "is_whole" (defArgs s_is_whole) (defBody s_is_whole) (defScope s_is_whole) .none kV_is_whole dc_is_whole pm_is_whole an_is_whole cd_is_whole ct_is_whole), sl_is_whole⟩)
    (c_is_whole : PySem.W.codeIn K cd_is_whole "is_whole" = true)
    (k_is_whole : PySem.W.keepIn K (.ref a_is_whole) = true)
    (n_divisor : PySem.W.nsIn K mainGlobals "divisor" = some (some (.ref a_divisor)))
    (l_divisor : K.lookup a_divisor = some ⟨oc_divisor, od_divisor, .func (PySem.W.fnOf "divisor" "divisor" (defArgs s_divisor) (defBody s_divisor) (defScope s_divisor) .none kV_divisor dc_divisor pm_divisor an_divisor cd_divisor ct_divisor), sl_divisor⟩)
    (c_divisor : PySem.W.codeIn K cd_divisor "divisor" = true)
    (k_divisor : PySem.W.keepIn K (.ref a_divisor) = true)
    (n_fraction : PySem.W.nsIn K mainGlobals "fraction" = some (some (.ref a_fraction)))
    (l_fraction : K.lookup a_fraction = some ⟨oc_fraction, od_fraction, .func (PySem.W.fnOf "fraction" "fraction" (defArgs s_fraction) (defBody s_fraction) (defScope s_fraction) .none kV_fraction dc_fraction pm_fraction an_fraction cd_fraction ct_fraction), sl_fraction⟩)
    (c_fraction : PySem.W.codeIn K cd_fraction "fraction" = true)
    (k_fraction : PySem.W.keepIn K (.ref a_fraction) = true)
    (n_is_prime : PySem.W.nsIn K mainGlobals "is_prime" = some (some (.ref a_is_prime)))
    (l_is_prime : K.lookup a_is_prime = some ⟨oc_is_prime, od_is_prime, .func (PySem.W.fnOf "is_prime" "is_prime" (defArgs s_is_prime) (defBody s_is_prime) (defScope s_is_prime) .none kV_is_prime dc_is_prime pm_is_prime an_is_prime cd_is_prime ct_is_prime), sl_is_prime⟩)
    (c_is_prime : PySem.W.codeIn K cd_is_prime "is_prime" = true)
    (k_is_prime : PySem.W.keepIn K (.ref a_is_prime) = true)
    (n_Fractions_nought : PySem.W.findIn K (.ref a_Fractions) "nought" = some (some (.ref a_Fractions_nought)))
    (i_Fractions_nought : PySem.W.isFn K (.ref a_Fractions_nought) = true)
    (l_Fractions_nought : K.lookup a_Fractions_nought = some ⟨oc_Fractions_nought, od_Fractions_nought, .func (PySem.W.fnOf "nought" "Fractions.nought" (defArgs s_Fractions_nought) (defBody s_Fractions_nought) (defScope s_Fractions_nought) .none kV_Fractions_nought dc_Fractions_nought pm_Fractions_nought an_Fractions_nought cd_Fractions_nought ct_Fractions_nought), sl_Fractions_nought⟩)
    (c_Fractions_nought : PySem.W.codeIn K cd_Fractions_nought "Fractions.nought" = true)
    (k_Fractions_nought : PySem.W.keepIn K (.ref a_Fractions_nought) = true)
    (n_Fractions_one : PySem.W.findIn K (.ref a_Fractions) "one" = some (some (.ref a_Fractions_one)))
    (i_Fractions_one : PySem.W.isFn K (.ref a_Fractions_one) = true)
    (l_Fractions_one : K.lookup a_Fractions_one = some ⟨oc_Fractions_one, od_Fractions_one, .func (PySem.W.fnOf "one" "Fractions.one" (defArgs s_Fractions_one) (defBody s_Fractions_one) (defScope s_Fractions_one) .none kV_Fractions_one dc_Fractions_one pm_Fractions_one an_Fractions_one cd_Fractions_one ct_Fractions_one), sl_Fractions_one⟩)
    (c_Fractions_one : PySem.W.codeIn K cd_Fractions_one "Fractions.one" = true)
    (k_Fractions_one : PySem.W.keepIn K (.ref a_Fractions_one) = true)
    (n_Fractions_plus : PySem.W.findIn K (.ref a_Fractions) "plus" = some (some (.ref a_Fractions_plus)))
    (i_Fractions_plus : PySem.W.isFn K (.ref a_Fractions_plus) = true)
    (l_Fractions_plus : K.lookup a_Fractions_plus = some ⟨oc_Fractions_plus, od_Fractions_plus, .func (PySem.W.fnOf "plus" "Fractions.plus" (defArgs s_Fractions_plus) (defBody s_Fractions_plus) (defScope s_Fractions_plus) .none kV_Fractions_plus dc_Fractions_plus pm_Fractions_plus an_Fractions_plus cd_Fractions_plus ct_Fractions_plus), sl_Fractions_plus⟩)
    (c_Fractions_plus : PySem.W.codeIn K cd_Fractions_plus "Fractions.plus" = true)
    (k_Fractions_plus : PySem.W.keepIn K (.ref a_Fractions_plus) = true)
    (n_Fractions_times : PySem.W.findIn K (.ref a_Fractions) "times" = some (some (.ref a_Fractions_times)))
    (i_Fractions_times : PySem.W.isFn K (.ref a_Fractions_times) = true)
    (l_Fractions_times : K.lookup a_Fractions_times = some ⟨oc_Fractions_times, od_Fractions_times, .func (PySem.W.fnOf "times" "Fractions.times" (defArgs s_Fractions_times) (defBody s_Fractions_times) (defScope s_Fractions_times) .none kV_Fractions_times dc_Fractions_times pm_Fractions_times an_Fractions_times cd_Fractions_times ct_Fractions_times), sl_Fractions_times⟩)
    (c_Fractions_times : PySem.W.codeIn K cd_Fractions_times "Fractions.times" = true)
    (k_Fractions_times : PySem.W.keepIn K (.ref a_Fractions_times) = true)
    (n_Fractions_is_weight : PySem.W.findIn K (.ref a_Fractions) "is_weight" = some (some (.ref a_Fractions_is_weight)))
    (i_Fractions_is_weight : PySem.W.isFn K (.ref a_Fractions_is_weight) = true)
    (l_Fractions_is_weight : K.lookup a_Fractions_is_weight = some ⟨oc_Fractions_is_weight, od_Fractions_is_weight, .func (PySem.W.fnOf "is_weight" "Fractions.is_weight" (defArgs s_Fractions_is_weight) (defBody s_Fractions_is_weight) (defScope s_Fractions_is_weight) .none kV_Fractions_is_weight dc_Fractions_is_weight pm_Fractions_is_weight an_Fractions_is_weight cd_Fractions_is_weight ct_Fractions_is_weight), sl_Fractions_is_weight⟩)
    (c_Fractions_is_weight : PySem.W.codeIn K cd_Fractions_is_weight "Fractions.is_weight" = true)
    (k_Fractions_is_weight : PySem.W.keepIn K (.ref a_Fractions_is_weight) = true)
    (n_Residues___init__ : PySem.W.findIn K (.ref a_Residues) "__init__" = some (some (.ref a_Residues___init__)))
    (i_Residues___init__ : PySem.W.isFn K (.ref a_Residues___init__) = true)
    (l_Residues___init__ : K.lookup a_Residues___init__ = some ⟨oc_Residues___init__, od_Residues___init__, .func (PySem.W.fnOf "__init__" "Residues.__init__" (defArgs s_Residues___init__) (defBody s_Residues___init__) (defScope s_Residues___init__) .none kV_Residues___init__ dc_Residues___init__ pm_Residues___init__ an_Residues___init__ cd_Residues___init__ ct_Residues___init__), sl_Residues___init__⟩)
    (c_Residues___init__ : PySem.W.codeIn K cd_Residues___init__ "Residues.__init__" = true)
    (k_Residues___init__ : PySem.W.keepIn K (.ref a_Residues___init__) = true)
    (n_Residues_nought : PySem.W.findIn K (.ref a_Residues) "nought" = some (some (.ref a_Residues_nought)))
    (i_Residues_nought : PySem.W.isFn K (.ref a_Residues_nought) = true)
    (l_Residues_nought : K.lookup a_Residues_nought = some ⟨oc_Residues_nought, od_Residues_nought, .func (PySem.W.fnOf "nought" "Residues.nought" (defArgs s_Residues_nought) (defBody s_Residues_nought) (defScope s_Residues_nought) .none kV_Residues_nought dc_Residues_nought pm_Residues_nought an_Residues_nought cd_Residues_nought ct_Residues_nought), sl_Residues_nought⟩)
    (c_Residues_nought : PySem.W.codeIn K cd_Residues_nought "Residues.nought" = true)
    (k_Residues_nought : PySem.W.keepIn K (.ref a_Residues_nought) = true)
    (n_Residues_one : PySem.W.findIn K (.ref a_Residues) "one" = some (some (.ref a_Residues_one)))
    (i_Residues_one : PySem.W.isFn K (.ref a_Residues_one) = true)
    (l_Residues_one : K.lookup a_Residues_one = some ⟨oc_Residues_one, od_Residues_one, .func (PySem.W.fnOf "one" "Residues.one" (defArgs s_Residues_one) (defBody s_Residues_one) (defScope s_Residues_one) .none kV_Residues_one dc_Residues_one pm_Residues_one an_Residues_one cd_Residues_one ct_Residues_one), sl_Residues_one⟩)
    (c_Residues_one : PySem.W.codeIn K cd_Residues_one "Residues.one" = true)
    (k_Residues_one : PySem.W.keepIn K (.ref a_Residues_one) = true)
    (n_Residues_plus : PySem.W.findIn K (.ref a_Residues) "plus" = some (some (.ref a_Residues_plus)))
    (i_Residues_plus : PySem.W.isFn K (.ref a_Residues_plus) = true)
    (l_Residues_plus : K.lookup a_Residues_plus = some ⟨oc_Residues_plus, od_Residues_plus, .func (PySem.W.fnOf "plus" "Residues.plus" (defArgs s_Residues_plus) (defBody s_Residues_plus) (defScope s_Residues_plus) .none kV_Residues_plus dc_Residues_plus pm_Residues_plus an_Residues_plus cd_Residues_plus ct_Residues_plus), sl_Residues_plus⟩)
    (c_Residues_plus : PySem.W.codeIn K cd_Residues_plus "Residues.plus" = true)
    (k_Residues_plus : PySem.W.keepIn K (.ref a_Residues_plus) = true)
    (n_Residues_times : PySem.W.findIn K (.ref a_Residues) "times" = some (some (.ref a_Residues_times)))
    (i_Residues_times : PySem.W.isFn K (.ref a_Residues_times) = true)
    (l_Residues_times : K.lookup a_Residues_times = some ⟨oc_Residues_times, od_Residues_times, .func (PySem.W.fnOf "times" "Residues.times" (defArgs s_Residues_times) (defBody s_Residues_times) (defScope s_Residues_times) .none kV_Residues_times dc_Residues_times pm_Residues_times an_Residues_times cd_Residues_times ct_Residues_times), sl_Residues_times⟩)
    (c_Residues_times : PySem.W.codeIn K cd_Residues_times "Residues.times" = true)
    (k_Residues_times : PySem.W.keepIn K (.ref a_Residues_times) = true)
    (n_Residues_is_weight : PySem.W.findIn K (.ref a_Residues) "is_weight" = some (some (.ref a_Residues_is_weight)))
    (i_Residues_is_weight : PySem.W.isFn K (.ref a_Residues_is_weight) = true)
    (l_Residues_is_weight : K.lookup a_Residues_is_weight = some ⟨oc_Residues_is_weight, od_Residues_is_weight, .func (PySem.W.fnOf "is_weight" "Residues.is_weight" (defArgs s_Residues_is_weight) (defBody s_Residues_is_weight) (defScope s_Residues_is_weight) .none kV_Residues_is_weight dc_Residues_is_weight pm_Residues_is_weight an_Residues_is_weight cd_Residues_is_weight ct_Residues_is_weight), sl_Residues_is_weight⟩)
    (c_Residues_is_weight : PySem.W.codeIn K cd_Residues_is_weight "Residues.is_weight" = true)
    (k_Residues_is_weight : PySem.W.keepIn K (.ref a_Residues_is_weight) = true)
    (n_Costs_nought : PySem.W.findIn K (.ref a_Costs) "nought" = some (some (.ref a_Costs_nought)))
    (i_Costs_nought : PySem.W.isFn K (.ref a_Costs_nought) = true)
    (l_Costs_nought : K.lookup a_Costs_nought = some ⟨oc_Costs_nought, od_Costs_nought, .func (PySem.W.fnOf "nought" "Costs.nought" (defArgs s_Costs_nought) (defBody s_Costs_nought) (defScope s_Costs_nought) .none kV_Costs_nought dc_Costs_nought pm_Costs_nought an_Costs_nought cd_Costs_nought ct_Costs_nought), sl_Costs_nought⟩)
    (c_Costs_nought : PySem.W.codeIn K cd_Costs_nought "Costs.nought" = true)
    (k_Costs_nought : PySem.W.keepIn K (.ref a_Costs_nought) = true)
    (n_Costs_one : PySem.W.findIn K (.ref a_Costs) "one" = some (some (.ref a_Costs_one)))
    (i_Costs_one : PySem.W.isFn K (.ref a_Costs_one) = true)
    (l_Costs_one : K.lookup a_Costs_one = some ⟨oc_Costs_one, od_Costs_one, .func (PySem.W.fnOf "one" "Costs.one" (defArgs s_Costs_one) (defBody s_Costs_one) (defScope s_Costs_one) .none kV_Costs_one dc_Costs_one pm_Costs_one an_Costs_one cd_Costs_one ct_Costs_one), sl_Costs_one⟩)
    (c_Costs_one : PySem.W.codeIn K cd_Costs_one "Costs.one" = true)
    (k_Costs_one : PySem.W.keepIn K (.ref a_Costs_one) = true)
    (n_Costs_plus : PySem.W.findIn K (.ref a_Costs) "plus" = some (some (.ref a_Costs_plus)))
    (i_Costs_plus : PySem.W.isFn K (.ref a_Costs_plus) = true)
    (l_Costs_plus : K.lookup a_Costs_plus = some ⟨oc_Costs_plus, od_Costs_plus, .func (PySem.W.fnOf "plus" "Costs.plus" (defArgs s_Costs_plus) (defBody s_Costs_plus) (defScope s_Costs_plus) .none kV_Costs_plus dc_Costs_plus pm_Costs_plus an_Costs_plus cd_Costs_plus ct_Costs_plus), sl_Costs_plus⟩)
    (c_Costs_plus : PySem.W.codeIn K cd_Costs_plus "Costs.plus" = true)
    (k_Costs_plus : PySem.W.keepIn K (.ref a_Costs_plus) = true)
    (n_Costs_times : PySem.W.findIn K (.ref a_Costs) "times" = some (some (.ref a_Costs_times)))
    (i_Costs_times : PySem.W.isFn K (.ref a_Costs_times) = true)
    (l_Costs_times : K.lookup a_Costs_times = some ⟨oc_Costs_times, od_Costs_times, .func (PySem.W.fnOf "times" "Costs.times" (defArgs s_Costs_times) (defBody s_Costs_times) (defScope s_Costs_times) .none kV_Costs_times dc_Costs_times pm_Costs_times an_Costs_times cd_Costs_times ct_Costs_times), sl_Costs_times⟩)
    (c_Costs_times : PySem.W.codeIn K cd_Costs_times "Costs.times" = true)
    (k_Costs_times : PySem.W.keepIn K (.ref a_Costs_times) = true)
    (n_Costs_is_weight : PySem.W.findIn K (.ref a_Costs) "is_weight" = some (some (.ref a_Costs_is_weight)))
    (i_Costs_is_weight : PySem.W.isFn K (.ref a_Costs_is_weight) = true)
    (l_Costs_is_weight : K.lookup a_Costs_is_weight = some ⟨oc_Costs_is_weight, od_Costs_is_weight, .func (PySem.W.fnOf "is_weight" "Costs.is_weight" (defArgs s_Costs_is_weight) (defBody s_Costs_is_weight) (defScope s_Costs_is_weight) .none kV_Costs_is_weight dc_Costs_is_weight pm_Costs_is_weight an_Costs_is_weight cd_Costs_is_weight ct_Costs_is_weight), sl_Costs_is_weight⟩)
    (c_Costs_is_weight : PySem.W.codeIn K cd_Costs_is_weight "Costs.is_weight" = true)
    (k_Costs_is_weight : PySem.W.keepIn K (.ref a_Costs_is_weight) = true)
    (n_Truths_nought : PySem.W.findIn K (.ref a_Truths) "nought" = some (some (.ref a_Truths_nought)))
    (i_Truths_nought : PySem.W.isFn K (.ref a_Truths_nought) = true)
    (l_Truths_nought : K.lookup a_Truths_nought = some ⟨oc_Truths_nought, od_Truths_nought, .func (PySem.W.fnOf "nought" "Truths.nought" (defArgs s_Truths_nought) (defBody s_Truths_nought) (defScope s_Truths_nought) .none kV_Truths_nought dc_Truths_nought pm_Truths_nought an_Truths_nought cd_Truths_nought ct_Truths_nought), sl_Truths_nought⟩)
    (c_Truths_nought : PySem.W.codeIn K cd_Truths_nought "Truths.nought" = true)
    (k_Truths_nought : PySem.W.keepIn K (.ref a_Truths_nought) = true)
    (n_Truths_one : PySem.W.findIn K (.ref a_Truths) "one" = some (some (.ref a_Truths_one)))
    (i_Truths_one : PySem.W.isFn K (.ref a_Truths_one) = true)
    (l_Truths_one : K.lookup a_Truths_one = some ⟨oc_Truths_one, od_Truths_one, .func (PySem.W.fnOf "one" "Truths.one" (defArgs s_Truths_one) (defBody s_Truths_one) (defScope s_Truths_one) .none kV_Truths_one dc_Truths_one pm_Truths_one an_Truths_one cd_Truths_one ct_Truths_one), sl_Truths_one⟩)
    (c_Truths_one : PySem.W.codeIn K cd_Truths_one "Truths.one" = true)
    (k_Truths_one : PySem.W.keepIn K (.ref a_Truths_one) = true)
    (n_Truths_plus : PySem.W.findIn K (.ref a_Truths) "plus" = some (some (.ref a_Truths_plus)))
    (i_Truths_plus : PySem.W.isFn K (.ref a_Truths_plus) = true)
    (l_Truths_plus : K.lookup a_Truths_plus = some ⟨oc_Truths_plus, od_Truths_plus, .func (PySem.W.fnOf "plus" "Truths.plus" (defArgs s_Truths_plus) (defBody s_Truths_plus) (defScope s_Truths_plus) .none kV_Truths_plus dc_Truths_plus pm_Truths_plus an_Truths_plus cd_Truths_plus ct_Truths_plus), sl_Truths_plus⟩)
    (c_Truths_plus : PySem.W.codeIn K cd_Truths_plus "Truths.plus" = true)
    (k_Truths_plus : PySem.W.keepIn K (.ref a_Truths_plus) = true)
    (n_Truths_times : PySem.W.findIn K (.ref a_Truths) "times" = some (some (.ref a_Truths_times)))
    (i_Truths_times : PySem.W.isFn K (.ref a_Truths_times) = true)
    (l_Truths_times : K.lookup a_Truths_times = some ⟨oc_Truths_times, od_Truths_times, .func (PySem.W.fnOf "times" "Truths.times" (defArgs s_Truths_times) (defBody s_Truths_times) (defScope s_Truths_times) .none kV_Truths_times dc_Truths_times pm_Truths_times an_Truths_times cd_Truths_times ct_Truths_times), sl_Truths_times⟩)
    (c_Truths_times : PySem.W.codeIn K cd_Truths_times "Truths.times" = true)
    (k_Truths_times : PySem.W.keepIn K (.ref a_Truths_times) = true)
    (n_Truths_is_weight : PySem.W.findIn K (.ref a_Truths) "is_weight" = some (some (.ref a_Truths_is_weight)))
    (i_Truths_is_weight : PySem.W.isFn K (.ref a_Truths_is_weight) = true)
    (l_Truths_is_weight : K.lookup a_Truths_is_weight = some ⟨oc_Truths_is_weight, od_Truths_is_weight, .func (PySem.W.fnOf "is_weight" "Truths.is_weight" (defArgs s_Truths_is_weight) (defBody s_Truths_is_weight) (defScope s_Truths_is_weight) .none kV_Truths_is_weight dc_Truths_is_weight pm_Truths_is_weight an_Truths_is_weight cd_Truths_is_weight ct_Truths_is_weight), sl_Truths_is_weight⟩)
    (c_Truths_is_weight : PySem.W.codeIn K cd_Truths_is_weight "Truths.is_weight" = true)
    (k_Truths_is_weight : PySem.W.keepIn K (.ref a_Truths_is_weight) = true)
    (n_law_divisor : PySem.W.nsIn K mainGlobals "_law_divisor" = some (some (.ref a_law_divisor)))
    (l_law_divisor : K.lookup a_law_divisor = some ⟨oc_law_divisor, od_law_divisor, .func (PySem.W.fnOf "_law_divisor" "_law_divisor" (defArgs s_law_divisor) (defBody s_law_divisor) (defScope s_law_divisor) .none kV_law_divisor dc_law_divisor pm_law_divisor an_law_divisor cd_law_divisor ct_law_divisor), sl_law_divisor⟩)
    (c_law_divisor : PySem.W.codeIn K cd_law_divisor "_law_divisor" = true)
    (k_law_divisor : PySem.W.keepIn K (.ref a_law_divisor) = true)
    (n_law_low : PySem.W.nsIn K mainGlobals "_law_low" = some (some (.ref a_law_low)))
    (l_law_low : K.lookup a_law_low = some ⟨oc_law_low, od_law_low, .func (PySem.W.fnOf "_law_low" "_law_low" (defArgs s_law_low) (defBody s_law_low) (defScope s_law_low) .none kV_law_low dc_law_low pm_law_low an_law_low cd_law_low ct_law_low), sl_law_low⟩)
    (c_law_low : PySem.W.codeIn K cd_law_low "_law_low" = true)
    (k_law_low : PySem.W.keepIn K (.ref a_law_low) = true)
    (n_law_kinds : PySem.W.nsIn K mainGlobals "_law_kinds" = some (some (.ref a_law_kinds)))
    (l_law_kinds : K.lookup a_law_kinds = some ⟨oc_law_kinds, od_law_kinds, .func (PySem.W.fnOf "_law_kinds" "_law_kinds" (defArgs s_law_kinds) (defBody s_law_kinds) (defScope s_law_kinds) .none kV_law_kinds dc_law_kinds pm_law_kinds an_law_kinds cd_law_kinds ct_law_kinds), sl_law_kinds⟩)
    (c_law_kinds : PySem.W.codeIn K cd_law_kinds "_law_kinds" = true)
    (k_law_kinds : PySem.W.keepIn K (.ref a_law_kinds) = true)
    (n_law_weight : PySem.W.nsIn K mainGlobals "_law_weight" = some (some (.ref a_law_weight)))
    (l_law_weight : K.lookup a_law_weight = some ⟨oc_law_weight, od_law_weight, .func (PySem.W.fnOf "_law_weight" "_law_weight" (defArgs s_law_weight) (defBody s_law_weight) (defScope s_law_weight) .none kV_law_weight dc_law_weight pm_law_weight an_law_weight cd_law_weight ct_law_weight), sl_law_weight⟩)
    (c_law_weight : PySem.W.codeIn K cd_law_weight "_law_weight" = true)
    (k_law_weight : PySem.W.keepIn K (.ref a_law_weight) = true)
    (n_law_three : PySem.W.nsIn K mainGlobals "_law_three" = some (some (.ref a_law_three)))
    (l_law_three : K.lookup a_law_three = some ⟨oc_law_three, od_law_three, .func (PySem.W.fnOf "_law_three" "_law_three" (defArgs s_law_three) (defBody s_law_three) (defScope s_law_three) .none kV_law_three dc_law_three pm_law_three an_law_three cd_law_three ct_law_three), sl_law_three⟩)
    (c_law_three : PySem.W.codeIn K cd_law_three "_law_three" = true)
    (k_law_three : PySem.W.keepIn K (.ref a_law_three) = true)
    (n_law_edges : PySem.W.nsIn K mainGlobals "_law_edges" = some (some (.ref a_law_edges)))
    (l_law_edges : K.lookup a_law_edges = some ⟨oc_law_edges, od_law_edges, .func (PySem.W.fnOf "_law_edges" "_law_edges" (defArgs s_law_edges) (defBody s_law_edges) (defScope s_law_edges) .none kV_law_edges dc_law_edges pm_law_edges an_law_edges cd_law_edges ct_law_edges), sl_law_edges⟩)
    (c_law_edges : PySem.W.codeIn K cd_law_edges "_law_edges" = true)
    (k_law_edges : PySem.W.keepIn K (.ref a_law_edges) = true)
    (n_law : PySem.W.nsIn K mainGlobals "law" = some (some (.ref a_law)))
    (l_law : K.lookup a_law = some ⟨oc_law, od_law, .func (PySem.W.fnOf "law" "law" (defArgs s_law) (defBody s_law) (defScope s_law) .none kV_law dc_law pm_law an_law cd_law ct_law), sl_law⟩)
    (c_law : PySem.W.codeIn K cd_law "law" = true)
    (k_law : PySem.W.keepIn K (.ref a_law) = true)
    (z_isinstance : PySem.W.nsIn K mainGlobals "isinstance" = some none)
    (z_int : PySem.W.nsIn K mainGlobals "int" = some none)
    (z_bool : PySem.W.nsIn K mainGlobals "bool" = some none)
    (z_abs : PySem.W.nsIn K mainGlobals "abs" = some none)
    (z_tuple : PySem.W.nsIn K mainGlobals "tuple" = some none)
    (z_len : PySem.W.nsIn K mainGlobals "len" = some none)
    {tk_c_GREATEST_PRIME : Tok} (c_GREATEST_PRIME : PySem.W.nsIn K mainGlobals "GREATEST_PRIME" = some (some (.int 1000000 tk_c_GREATEST_PRIME)))
    (z_min : PySem.W.nsIn K mainGlobals "min" = some none)
    (z_range : PySem.W.nsIn K mainGlobals "range" = some none)
    (k_ii : PySem.W.kitOne K (.type "int") (.type "int") = some true)
    (k_ib : PySem.W.kitOne K (.type "int") (.type "bool") = some false)
    (k_tt : PySem.W.kitOne K (.type "tuple") (.type "tuple") = some true)
    (k_bb : PySem.W.kitOne K (.type "bool") (.type "bool") = some true)
    (nP : PySem.W.findIn K (.ref a_Residues) "prime" = some none)
    : ∃ t : Adr, Txt K mg t :=
  ⟨{ is_whole := a_is_whole, d_is_whole := PySem.W.fnOf "is_whole" "is_whole" (defArgs s_is_whole) (defBody s_is_whole) (defScope s_is_whole) .none kV_is_whole dc_is_whole pm_is_whole an_is_whole cd_is_whole ct_is_whole, divisor := a_divisor, d_divisor := PySem.W.fnOf "divisor" "divisor" (defArgs s_divisor) (defBody s_divisor) (defScope s_divisor) .none kV_divisor dc_divisor pm_divisor an_divisor cd_divisor ct_divisor, fraction := a_fraction, d_fraction := PySem.W.fnOf "fraction" "fraction" (defArgs s_fraction) (defBody s_fraction) (defScope s_fraction) .none kV_fraction dc_fraction pm_fraction an_fraction cd_fraction ct_fraction, is_prime := a_is_prime, d_is_prime := PySem.W.fnOf "is_prime" "is_prime" (defArgs s_is_prime) (defBody s_is_prime) (defScope s_is_prime) .none kV_is_prime dc_is_prime pm_is_prime an_is_prime cd_is_prime ct_is_prime, Fractions_nought := a_Fractions_nought, d_Fractions_nought := PySem.W.fnOf "nought" "Fractions.nought" (defArgs s_Fractions_nought) (defBody s_Fractions_nought) (defScope s_Fractions_nought) .none kV_Fractions_nought dc_Fractions_nought pm_Fractions_nought an_Fractions_nought cd_Fractions_nought ct_Fractions_nought, Fractions_one := a_Fractions_one, d_Fractions_one := PySem.W.fnOf "one" "Fractions.one" (defArgs s_Fractions_one) (defBody s_Fractions_one) (defScope s_Fractions_one) .none kV_Fractions_one dc_Fractions_one pm_Fractions_one an_Fractions_one cd_Fractions_one ct_Fractions_one, Fractions_plus := a_Fractions_plus, d_Fractions_plus := PySem.W.fnOf "plus" "Fractions.plus" (defArgs s_Fractions_plus) (defBody s_Fractions_plus) (defScope s_Fractions_plus) .none kV_Fractions_plus dc_Fractions_plus pm_Fractions_plus an_Fractions_plus cd_Fractions_plus ct_Fractions_plus, Fractions_times := a_Fractions_times, d_Fractions_times := PySem.W.fnOf "times" "Fractions.times" (defArgs s_Fractions_times) (defBody s_Fractions_times) (defScope s_Fractions_times) .none kV_Fractions_times dc_Fractions_times pm_Fractions_times an_Fractions_times cd_Fractions_times ct_Fractions_times, Fractions_is_weight := a_Fractions_is_weight, d_Fractions_is_weight := PySem.W.fnOf "is_weight" "Fractions.is_weight" (defArgs s_Fractions_is_weight) (defBody s_Fractions_is_weight) (defScope s_Fractions_is_weight) .none kV_Fractions_is_weight dc_Fractions_is_weight pm_Fractions_is_weight an_Fractions_is_weight cd_Fractions_is_weight ct_Fractions_is_weight, Residues___init__ := a_Residues___init__, d_Residues___init__ := PySem.W.fnOf "__init__" "Residues.__init__" (defArgs s_Residues___init__) (defBody s_Residues___init__) (defScope s_Residues___init__) .none kV_Residues___init__ dc_Residues___init__ pm_Residues___init__ an_Residues___init__ cd_Residues___init__ ct_Residues___init__, Residues_nought := a_Residues_nought, d_Residues_nought := PySem.W.fnOf "nought" "Residues.nought" (defArgs s_Residues_nought) (defBody s_Residues_nought) (defScope s_Residues_nought) .none kV_Residues_nought dc_Residues_nought pm_Residues_nought an_Residues_nought cd_Residues_nought ct_Residues_nought, Residues_one := a_Residues_one, d_Residues_one := PySem.W.fnOf "one" "Residues.one" (defArgs s_Residues_one) (defBody s_Residues_one) (defScope s_Residues_one) .none kV_Residues_one dc_Residues_one pm_Residues_one an_Residues_one cd_Residues_one ct_Residues_one, Residues_plus := a_Residues_plus, d_Residues_plus := PySem.W.fnOf "plus" "Residues.plus" (defArgs s_Residues_plus) (defBody s_Residues_plus) (defScope s_Residues_plus) .none kV_Residues_plus dc_Residues_plus pm_Residues_plus an_Residues_plus cd_Residues_plus ct_Residues_plus, Residues_times := a_Residues_times, d_Residues_times := PySem.W.fnOf "times" "Residues.times" (defArgs s_Residues_times) (defBody s_Residues_times) (defScope s_Residues_times) .none kV_Residues_times dc_Residues_times pm_Residues_times an_Residues_times cd_Residues_times ct_Residues_times, Residues_is_weight := a_Residues_is_weight, d_Residues_is_weight := PySem.W.fnOf "is_weight" "Residues.is_weight" (defArgs s_Residues_is_weight) (defBody s_Residues_is_weight) (defScope s_Residues_is_weight) .none kV_Residues_is_weight dc_Residues_is_weight pm_Residues_is_weight an_Residues_is_weight cd_Residues_is_weight ct_Residues_is_weight, Costs_nought := a_Costs_nought, d_Costs_nought := PySem.W.fnOf "nought" "Costs.nought" (defArgs s_Costs_nought) (defBody s_Costs_nought) (defScope s_Costs_nought) .none kV_Costs_nought dc_Costs_nought pm_Costs_nought an_Costs_nought cd_Costs_nought ct_Costs_nought, Costs_one := a_Costs_one, d_Costs_one := PySem.W.fnOf "one" "Costs.one" (defArgs s_Costs_one) (defBody s_Costs_one) (defScope s_Costs_one) .none kV_Costs_one dc_Costs_one pm_Costs_one an_Costs_one cd_Costs_one ct_Costs_one, Costs_plus := a_Costs_plus, d_Costs_plus := PySem.W.fnOf "plus" "Costs.plus" (defArgs s_Costs_plus) (defBody s_Costs_plus) (defScope s_Costs_plus) .none kV_Costs_plus dc_Costs_plus pm_Costs_plus an_Costs_plus cd_Costs_plus ct_Costs_plus, Costs_times := a_Costs_times, d_Costs_times := PySem.W.fnOf "times" "Costs.times" (defArgs s_Costs_times) (defBody s_Costs_times) (defScope s_Costs_times) .none kV_Costs_times dc_Costs_times pm_Costs_times an_Costs_times cd_Costs_times ct_Costs_times, Costs_is_weight := a_Costs_is_weight, d_Costs_is_weight := PySem.W.fnOf "is_weight" "Costs.is_weight" (defArgs s_Costs_is_weight) (defBody s_Costs_is_weight) (defScope s_Costs_is_weight) .none kV_Costs_is_weight dc_Costs_is_weight pm_Costs_is_weight an_Costs_is_weight cd_Costs_is_weight ct_Costs_is_weight, Truths_nought := a_Truths_nought, d_Truths_nought := PySem.W.fnOf "nought" "Truths.nought" (defArgs s_Truths_nought) (defBody s_Truths_nought) (defScope s_Truths_nought) .none kV_Truths_nought dc_Truths_nought pm_Truths_nought an_Truths_nought cd_Truths_nought ct_Truths_nought, Truths_one := a_Truths_one, d_Truths_one := PySem.W.fnOf "one" "Truths.one" (defArgs s_Truths_one) (defBody s_Truths_one) (defScope s_Truths_one) .none kV_Truths_one dc_Truths_one pm_Truths_one an_Truths_one cd_Truths_one ct_Truths_one, Truths_plus := a_Truths_plus, d_Truths_plus := PySem.W.fnOf "plus" "Truths.plus" (defArgs s_Truths_plus) (defBody s_Truths_plus) (defScope s_Truths_plus) .none kV_Truths_plus dc_Truths_plus pm_Truths_plus an_Truths_plus cd_Truths_plus ct_Truths_plus, Truths_times := a_Truths_times, d_Truths_times := PySem.W.fnOf "times" "Truths.times" (defArgs s_Truths_times) (defBody s_Truths_times) (defScope s_Truths_times) .none kV_Truths_times dc_Truths_times pm_Truths_times an_Truths_times cd_Truths_times ct_Truths_times, Truths_is_weight := a_Truths_is_weight, d_Truths_is_weight := PySem.W.fnOf "is_weight" "Truths.is_weight" (defArgs s_Truths_is_weight) (defBody s_Truths_is_weight) (defScope s_Truths_is_weight) .none kV_Truths_is_weight dc_Truths_is_weight pm_Truths_is_weight an_Truths_is_weight cd_Truths_is_weight ct_Truths_is_weight, law_divisor := a_law_divisor, d_law_divisor := PySem.W.fnOf "_law_divisor" "_law_divisor" (defArgs s_law_divisor) (defBody s_law_divisor) (defScope s_law_divisor) .none kV_law_divisor dc_law_divisor pm_law_divisor an_law_divisor cd_law_divisor ct_law_divisor, law_low := a_law_low, d_law_low := PySem.W.fnOf "_law_low" "_law_low" (defArgs s_law_low) (defBody s_law_low) (defScope s_law_low) .none kV_law_low dc_law_low pm_law_low an_law_low cd_law_low ct_law_low, law_kinds := a_law_kinds, d_law_kinds := PySem.W.fnOf "_law_kinds" "_law_kinds" (defArgs s_law_kinds) (defBody s_law_kinds) (defScope s_law_kinds) .none kV_law_kinds dc_law_kinds pm_law_kinds an_law_kinds cd_law_kinds ct_law_kinds, law_weight := a_law_weight, d_law_weight := PySem.W.fnOf "_law_weight" "_law_weight" (defArgs s_law_weight) (defBody s_law_weight) (defScope s_law_weight) .none kV_law_weight dc_law_weight pm_law_weight an_law_weight cd_law_weight ct_law_weight, law_three := a_law_three, d_law_three := PySem.W.fnOf "_law_three" "_law_three" (defArgs s_law_three) (defBody s_law_three) (defScope s_law_three) .none kV_law_three dc_law_three pm_law_three an_law_three cd_law_three ct_law_three, law_edges := a_law_edges, d_law_edges := PySem.W.fnOf "_law_edges" "_law_edges" (defArgs s_law_edges) (defBody s_law_edges) (defScope s_law_edges) .none kV_law_edges dc_law_edges pm_law_edges an_law_edges cd_law_edges ct_law_edges, law := a_law, d_law := PySem.W.fnOf "law" "law" (defArgs s_law) (defBody s_law) (defScope s_law) .none kV_law dc_law pm_law an_law cd_law ct_law, Truths := a_Truths, Costs := a_Costs, Residues := a_Residues, Fractions := a_Fractions },
    { F_is_whole := fun_mk (st := s_is_whole) l_is_whole c_is_whole k_is_whole,
      b_is_whole := (fun_mk (st := s_is_whole) l_is_whole c_is_whole k_is_whole).binds (ps := ["thing"]) fun _ _ _ _ _ _ us hl => match us, hl with | [_], _ => rfl,
      m_is_whole := PySem.W.mg_of X G n_is_whole,
      F_divisor := fun_mk (st := s_divisor) l_divisor c_divisor k_divisor,
      b_divisor := (fun_mk (st := s_divisor) l_divisor c_divisor k_divisor).binds (ps := ["one", "other"]) fun _ _ _ _ _ _ us hl => match us, hl with | [_, _], _ => rfl,
      m_divisor := PySem.W.mg_of X G n_divisor,
      F_fraction := fun_mk (st := s_fraction) l_fraction c_fraction k_fraction,
      b_fraction := (fun_mk (st := s_fraction) l_fraction c_fraction k_fraction).binds (ps := ["top", "bottom"]) fun _ _ _ _ _ _ us hl => match us, hl with | [_, _], _ => rfl,
      m_fraction := PySem.W.mg_of X G n_fraction,
      F_is_prime := fun_mk (st := s_is_prime) l_is_prime c_is_prime k_is_prime,
      b_is_prime := (fun_mk (st := s_is_prime) l_is_prime c_is_prime k_is_prime).binds (ps := ["number"]) fun _ _ _ _ _ _ us hl => match us, hl with | [_], _ => rfl,
      m_is_prime := PySem.W.mg_of X G n_is_prime,
      F_Fractions_nought := fun_mk (st := s_Fractions_nought) l_Fractions_nought c_Fractions_nought k_Fractions_nought,
      b_Fractions_nought := (fun_mk (st := s_Fractions_nought) l_Fractions_nought c_Fractions_nought k_Fractions_nought).binds (ps := ["self"]) fun _ _ _ _ _ _ us hl => match us, hl with | [_], _ => rfl,
      t_Fractions_nought := ⟨n_Fractions_nought, i_Fractions_nought, k_Fractions_nought⟩,
      F_Fractions_one := fun_mk (st := s_Fractions_one) l_Fractions_one c_Fractions_one k_Fractions_one,
      b_Fractions_one := (fun_mk (st := s_Fractions_one) l_Fractions_one c_Fractions_one k_Fractions_one).binds (ps := ["self"]) fun _ _ _ _ _ _ us hl => match us, hl with | [_], _ => rfl,
      t_Fractions_one := ⟨n_Fractions_one, i_Fractions_one, k_Fractions_one⟩,
      F_Fractions_plus := fun_mk (st := s_Fractions_plus) l_Fractions_plus c_Fractions_plus k_Fractions_plus,
      b_Fractions_plus := (fun_mk (st := s_Fractions_plus) l_Fractions_plus c_Fractions_plus k_Fractions_plus).binds (ps := ["self", "x", "y"]) fun _ _ _ _ _ _ us hl => match us, hl with | [_, _, _], _ => rfl,
      t_Fractions_plus := ⟨n_Fractions_plus, i_Fractions_plus, k_Fractions_plus⟩,
      F_Fractions_times := fun_mk (st := s_Fractions_times) l_Fractions_times c_Fractions_times k_Fractions_times,
      b_Fractions_times := (fun_mk (st := s_Fractions_times) l_Fractions_times c_Fractions_times k_Fractions_times).binds (ps := ["self", "x", "y"]) fun _ _ _ _ _ _ us hl => match us, hl with | [_, _, _], _ => rfl,
      t_Fractions_times := ⟨n_Fractions_times, i_Fractions_times, k_Fractions_times⟩,
      F_Fractions_is_weight := fun_mk (st := s_Fractions_is_weight) l_Fractions_is_weight c_Fractions_is_weight k_Fractions_is_weight,
      b_Fractions_is_weight := (fun_mk (st := s_Fractions_is_weight) l_Fractions_is_weight c_Fractions_is_weight k_Fractions_is_weight).binds (ps := ["self", "thing"]) fun _ _ _ _ _ _ us hl => match us, hl with | [_, _], _ => rfl,
      t_Fractions_is_weight := ⟨n_Fractions_is_weight, i_Fractions_is_weight, k_Fractions_is_weight⟩,
      F_Residues___init__ := fun_mk (st := s_Residues___init__) l_Residues___init__ c_Residues___init__ k_Residues___init__,
      b_Residues___init__ := (fun_mk (st := s_Residues___init__) l_Residues___init__ c_Residues___init__ k_Residues___init__).binds (ps := ["self", "prime"]) fun _ _ _ _ _ _ us hl => match us, hl with | [_, _], _ => rfl,
      t_Residues___init__ := ⟨n_Residues___init__, i_Residues___init__, k_Residues___init__⟩,
      F_Residues_nought := fun_mk (st := s_Residues_nought) l_Residues_nought c_Residues_nought k_Residues_nought,
      b_Residues_nought := (fun_mk (st := s_Residues_nought) l_Residues_nought c_Residues_nought k_Residues_nought).binds (ps := ["self"]) fun _ _ _ _ _ _ us hl => match us, hl with | [_], _ => rfl,
      t_Residues_nought := ⟨n_Residues_nought, i_Residues_nought, k_Residues_nought⟩,
      F_Residues_one := fun_mk (st := s_Residues_one) l_Residues_one c_Residues_one k_Residues_one,
      b_Residues_one := (fun_mk (st := s_Residues_one) l_Residues_one c_Residues_one k_Residues_one).binds (ps := ["self"]) fun _ _ _ _ _ _ us hl => match us, hl with | [_], _ => rfl,
      t_Residues_one := ⟨n_Residues_one, i_Residues_one, k_Residues_one⟩,
      F_Residues_plus := fun_mk (st := s_Residues_plus) l_Residues_plus c_Residues_plus k_Residues_plus,
      b_Residues_plus := (fun_mk (st := s_Residues_plus) l_Residues_plus c_Residues_plus k_Residues_plus).binds (ps := ["self", "x", "y"]) fun _ _ _ _ _ _ us hl => match us, hl with | [_, _, _], _ => rfl,
      t_Residues_plus := ⟨n_Residues_plus, i_Residues_plus, k_Residues_plus⟩,
      F_Residues_times := fun_mk (st := s_Residues_times) l_Residues_times c_Residues_times k_Residues_times,
      b_Residues_times := (fun_mk (st := s_Residues_times) l_Residues_times c_Residues_times k_Residues_times).binds (ps := ["self", "x", "y"]) fun _ _ _ _ _ _ us hl => match us, hl with | [_, _, _], _ => rfl,
      t_Residues_times := ⟨n_Residues_times, i_Residues_times, k_Residues_times⟩,
      F_Residues_is_weight := fun_mk (st := s_Residues_is_weight) l_Residues_is_weight c_Residues_is_weight k_Residues_is_weight,
      b_Residues_is_weight := (fun_mk (st := s_Residues_is_weight) l_Residues_is_weight c_Residues_is_weight k_Residues_is_weight).binds (ps := ["self", "thing"]) fun _ _ _ _ _ _ us hl => match us, hl with | [_, _], _ => rfl,
      t_Residues_is_weight := ⟨n_Residues_is_weight, i_Residues_is_weight, k_Residues_is_weight⟩,
      F_Costs_nought := fun_mk (st := s_Costs_nought) l_Costs_nought c_Costs_nought k_Costs_nought,
      b_Costs_nought := (fun_mk (st := s_Costs_nought) l_Costs_nought c_Costs_nought k_Costs_nought).binds (ps := ["self"]) fun _ _ _ _ _ _ us hl => match us, hl with | [_], _ => rfl,
      t_Costs_nought := ⟨n_Costs_nought, i_Costs_nought, k_Costs_nought⟩,
      F_Costs_one := fun_mk (st := s_Costs_one) l_Costs_one c_Costs_one k_Costs_one,
      b_Costs_one := (fun_mk (st := s_Costs_one) l_Costs_one c_Costs_one k_Costs_one).binds (ps := ["self"]) fun _ _ _ _ _ _ us hl => match us, hl with | [_], _ => rfl,
      t_Costs_one := ⟨n_Costs_one, i_Costs_one, k_Costs_one⟩,
      F_Costs_plus := fun_mk (st := s_Costs_plus) l_Costs_plus c_Costs_plus k_Costs_plus,
      b_Costs_plus := (fun_mk (st := s_Costs_plus) l_Costs_plus c_Costs_plus k_Costs_plus).binds (ps := ["self", "x", "y"]) fun _ _ _ _ _ _ us hl => match us, hl with | [_, _, _], _ => rfl,
      t_Costs_plus := ⟨n_Costs_plus, i_Costs_plus, k_Costs_plus⟩,
      F_Costs_times := fun_mk (st := s_Costs_times) l_Costs_times c_Costs_times k_Costs_times,
      b_Costs_times := (fun_mk (st := s_Costs_times) l_Costs_times c_Costs_times k_Costs_times).binds (ps := ["self", "x", "y"]) fun _ _ _ _ _ _ us hl => match us, hl with | [_, _, _], _ => rfl,
      t_Costs_times := ⟨n_Costs_times, i_Costs_times, k_Costs_times⟩,
      F_Costs_is_weight := fun_mk (st := s_Costs_is_weight) l_Costs_is_weight c_Costs_is_weight k_Costs_is_weight,
      b_Costs_is_weight := (fun_mk (st := s_Costs_is_weight) l_Costs_is_weight c_Costs_is_weight k_Costs_is_weight).binds (ps := ["self", "thing"]) fun _ _ _ _ _ _ us hl => match us, hl with | [_, _], _ => rfl,
      t_Costs_is_weight := ⟨n_Costs_is_weight, i_Costs_is_weight, k_Costs_is_weight⟩,
      F_Truths_nought := fun_mk (st := s_Truths_nought) l_Truths_nought c_Truths_nought k_Truths_nought,
      b_Truths_nought := (fun_mk (st := s_Truths_nought) l_Truths_nought c_Truths_nought k_Truths_nought).binds (ps := ["self"]) fun _ _ _ _ _ _ us hl => match us, hl with | [_], _ => rfl,
      t_Truths_nought := ⟨n_Truths_nought, i_Truths_nought, k_Truths_nought⟩,
      F_Truths_one := fun_mk (st := s_Truths_one) l_Truths_one c_Truths_one k_Truths_one,
      b_Truths_one := (fun_mk (st := s_Truths_one) l_Truths_one c_Truths_one k_Truths_one).binds (ps := ["self"]) fun _ _ _ _ _ _ us hl => match us, hl with | [_], _ => rfl,
      t_Truths_one := ⟨n_Truths_one, i_Truths_one, k_Truths_one⟩,
      F_Truths_plus := fun_mk (st := s_Truths_plus) l_Truths_plus c_Truths_plus k_Truths_plus,
      b_Truths_plus := (fun_mk (st := s_Truths_plus) l_Truths_plus c_Truths_plus k_Truths_plus).binds (ps := ["self", "x", "y"]) fun _ _ _ _ _ _ us hl => match us, hl with | [_, _, _], _ => rfl,
      t_Truths_plus := ⟨n_Truths_plus, i_Truths_plus, k_Truths_plus⟩,
      F_Truths_times := fun_mk (st := s_Truths_times) l_Truths_times c_Truths_times k_Truths_times,
      b_Truths_times := (fun_mk (st := s_Truths_times) l_Truths_times c_Truths_times k_Truths_times).binds (ps := ["self", "x", "y"]) fun _ _ _ _ _ _ us hl => match us, hl with | [_, _, _], _ => rfl,
      t_Truths_times := ⟨n_Truths_times, i_Truths_times, k_Truths_times⟩,
      F_Truths_is_weight := fun_mk (st := s_Truths_is_weight) l_Truths_is_weight c_Truths_is_weight k_Truths_is_weight,
      b_Truths_is_weight := (fun_mk (st := s_Truths_is_weight) l_Truths_is_weight c_Truths_is_weight k_Truths_is_weight).binds (ps := ["self", "thing"]) fun _ _ _ _ _ _ us hl => match us, hl with | [_, _], _ => rfl,
      t_Truths_is_weight := ⟨n_Truths_is_weight, i_Truths_is_weight, k_Truths_is_weight⟩,
      F_law_divisor := fun_mk (st := s_law_divisor) l_law_divisor c_law_divisor k_law_divisor,
      b_law_divisor := (fun_mk (st := s_law_divisor) l_law_divisor c_law_divisor k_law_divisor).binds (ps := ["_law_one", "_law_other"]) fun _ _ _ _ _ _ us hl => match us, hl with | [_, _], _ => rfl,
      m_law_divisor := PySem.W.mg_of X G n_law_divisor,
      F_law_low := fun_mk (st := s_law_low) l_law_low c_law_low k_law_low,
      b_law_low := (fun_mk (st := s_law_low) l_law_low c_law_low k_law_low).binds (ps := ["_law_top", "_law_bottom"]) fun _ _ _ _ _ _ us hl => match us, hl with | [_, _], _ => rfl,
      m_law_low := PySem.W.mg_of X G n_law_low,
      F_law_kinds := fun_mk (st := s_law_kinds) l_law_kinds c_law_kinds k_law_kinds,
      b_law_kinds := (fun_mk (st := s_law_kinds) l_law_kinds c_law_kinds k_law_kinds).binds (ps := ["_law_cell"]) fun _ _ _ _ _ _ us hl => match us, hl with | [_], _ => rfl,
      m_law_kinds := PySem.W.mg_of X G n_law_kinds,
      F_law_weight := fun_mk (st := s_law_weight) l_law_weight c_law_weight k_law_weight,
      b_law_weight := (fun_mk (st := s_law_weight) l_law_weight c_law_weight k_law_weight).binds (ps := ["_law_way", "_law_prime", "_law_cell"]) fun _ _ _ _ _ _ us hl => match us, hl with | [_, _, _], _ => rfl,
      m_law_weight := PySem.W.mg_of X G n_law_weight,
      F_law_three := fun_mk (st := s_law_three) l_law_three c_law_three k_law_three,
      b_law_three := (fun_mk (st := s_law_three) l_law_three c_law_three k_law_three).binds (ps := ["_law_kind", "_law_x", "_law_y", "_law_z"]) fun _ _ _ _ _ _ us hl => match us, hl with | [_, _, _, _], _ => rfl,
      m_law_three := PySem.W.mg_of X G n_law_three,
      F_law_edges := fun_mk (st := s_law_edges) l_law_edges c_law_edges k_law_edges,
      b_law_edges := (fun_mk (st := s_law_edges) l_law_edges c_law_edges k_law_edges).binds (ps := ["_law_kind", "_law_x"]) fun _ _ _ _ _ _ us hl => match us, hl with | [_, _], _ => rfl,
      m_law_edges := PySem.W.mg_of X G n_law_edges,
      F_law := fun_mk (st := s_law) l_law c_law k_law,
      b_law := (fun_mk (st := s_law) l_law c_law k_law).binds (ps := ["_law_script"]) fun _ _ _ _ _ _ us hl => match us, hl with | [_], _ => rfl,
      m_law := PySem.W.mg_of X G n_law,
      C_Truths := ⟨pg_Truths, hd_Truths, po_Truths, sa_Truths⟩,
      m_Truths := PySem.W.mg_of X G n_Truths,
      M_Truths := ⟨mk_Truths, in_Truths, kp_Truths⟩,
      C_Costs := ⟨pg_Costs, hd_Costs, po_Costs, sa_Costs⟩,
      m_Costs := PySem.W.mg_of X G n_Costs,
      M_Costs := ⟨mk_Costs, in_Costs, kp_Costs⟩,
      C_Residues := ⟨pg_Residues, hd_Residues, po_Residues, sa_Residues⟩,
      m_Residues := PySem.W.mg_of X G n_Residues,
      M_Residues := ⟨mk_Residues, n_Residues___init__, i_Residues___init__, kp_Residues⟩,
      C_Fractions := ⟨pg_Fractions, hd_Fractions, po_Fractions, sa_Fractions⟩,
      m_Fractions := PySem.W.mg_of X G n_Fractions,
      M_Fractions := ⟨mk_Fractions, in_Fractions, kp_Fractions⟩,
      z_isinstance := PySem.W.mg_none_of X G z_isinstance,
      z_int := PySem.W.mg_none_of X G z_int,
      z_bool := PySem.W.mg_none_of X G z_bool,
      z_abs := PySem.W.mg_none_of X G z_abs,
      z_tuple := PySem.W.mg_none_of X G z_tuple,
      z_len := PySem.W.mg_none_of X G z_len,
      c_GREATEST_PRIME := ⟨_, PySem.W.mg_of X G c_GREATEST_PRIME⟩,
      z_min := PySem.W.mg_none_of X G z_min,
      z_range := PySem.W.mg_none_of X G z_range,
      k_ii := k_ii,
      k_ib := k_ib,
      k_tt := k_tt,
      k_bb := k_bb,
      nP := nP }⟩
end K05
open PySem PySem.W PyProof.Rows
set_option maxRecDepth 100000 in
set_option maxHeartbeats 0 in
theorem PySem.Challenge.cw_weighwalk_k05_sums_and_products_go_toget_holds : PySem.Challenge.rw_weighwalk_k05_sums_and_products_go_toget.Holds := by
  w_on; o_law
  refine H05.holds_ (by assumption) ?hw ?hc
  (case hw => w_witness2)
  unfold H05.hook
  k_fill
  refine L2.walk_ofK (l := PySem.Challenge.rw_weighwalk_k05_sums_and_products_go_toget) (n := 63) (k := 6) (x := "_law_script") (CX := L2.CX0) (sp := K05.sp_law) rfl (by decide) rfl ⟨rfl, by decide, by decide⟩ (fun w h Y => PySem.W.kIn_of Y) ?F ?S ?C
  case F =>
    intro w mg fa h KX G hmg
    have T : ∃ t, K05.Txt (L2.KOf KX) mg t := by
      dsimp only [L2.KOf]
      refine' K05.txt_mk KX G ?n_Truths ?pg_Truths ?hd_Truths ?po_Truths ?sa_Truths ?mk_Truths ?kp_Truths ?in_Truths ?n_Costs ?pg_Costs ?hd_Costs ?po_Costs ?sa_Costs ?mk_Costs ?kp_Costs ?in_Costs ?n_Residues ?pg_Residues ?hd_Residues ?po_Residues ?sa_Residues ?mk_Residues ?kp_Residues ?n_Fractions ?pg_Fractions ?hd_Fractions ?po_Fractions ?sa_Fractions ?mk_Fractions ?kp_Fractions ?in_Fractions ?n_is_whole ?l_is_whole ?c_is_whole ?k_is_whole ?n_divisor ?l_divisor ?c_divisor ?k_divisor ?n_fraction ?l_fraction ?c_fraction ?k_fraction ?n_is_prime ?l_is_prime ?c_is_prime ?k_is_prime ?n_Fractions_nought ?i_Fractions_nought ?l_Fractions_nought ?c_Fractions_nought ?k_Fractions_nought ?n_Fractions_one ?i_Fractions_one ?l_Fractions_one ?c_Fractions_one ?k_Fractions_one ?n_Fractions_plus ?i_Fractions_plus ?l_Fractions_plus ?c_Fractions_plus ?k_Fractions_plus ?n_Fractions_times ?i_Fractions_times ?l_Fractions_times ?c_Fractions_times ?k_Fractions_times ?n_Fractions_is_weight ?i_Fractions_is_weight ?l_Fractions_is_weight ?c_Fractions_is_weight ?k_Fractions_is_weight ?n_Residues___init__ ?i_Residues___init__ ?l_Residues___init__ ?c_Residues___init__ ?k_Residues___init__ ?n_Residues_nought ?i_Residues_nought ?l_Residues_nought ?c_Residues_nought ?k_Residues_nought ?n_Residues_one ?i_Residues_one ?l_Residues_one ?c_Residues_one ?k_Residues_one ?n_Residues_plus ?i_Residues_plus ?l_Residues_plus ?c_Residues_plus ?k_Residues_plus ?n_Residues_times ?i_Residues_times ?l_Residues_times ?c_Residues_times ?k_Residues_times ?n_Residues_is_weight ?i_Residues_is_weight ?l_Residues_is_weight ?c_Residues_is_weight ?k_Residues_is_weight ?n_Costs_nought ?i_Costs_nought ?l_Costs_nought ?c_Costs_nought ?k_Costs_nought ?n_Costs_one ?i_Costs_one ?l_Costs_one ?c_Costs_one ?k_Costs_one ?n_Costs_plus ?i_Costs_plus ?l_Costs_plus ?c_Costs_plus ?k_Costs_plus ?n_Costs_times ?i_Costs_times ?l_Costs_times ?c_Costs_times ?k_Costs_times ?n_Costs_is_weight ?i_Costs_is_weight ?l_Costs_is_weight ?c_Costs_is_weight ?k_Costs_is_weight ?n_Truths_nought ?i_Truths_nought ?l_Truths_nought ?c_Truths_nought ?k_Truths_nought ?n_Truths_one ?i_Truths_one ?l_Truths_one ?c_Truths_one ?k_Truths_one ?n_Truths_plus ?i_Truths_plus ?l_Truths_plus ?c_Truths_plus ?k_Truths_plus ?n_Truths_times ?i_Truths_times ?l_Truths_times ?c_Truths_times ?k_Truths_times ?n_Truths_is_weight ?i_Truths_is_weight ?l_Truths_is_weight ?c_Truths_is_weight ?k_Truths_is_weight ?n_law_divisor ?l_law_divisor ?c_law_divisor ?k_law_divisor ?n_law_low ?l_law_low ?c_law_low ?k_law_low ?n_law_kinds ?l_law_kinds ?c_law_kinds ?k_law_kinds ?n_law_weight ?l_law_weight ?c_law_weight ?k_law_weight ?n_law_three ?l_law_three ?c_law_three ?k_law_three ?n_law_edges ?l_law_edges ?c_law_edges ?k_law_edges ?n_law ?l_law ?c_law ?k_law ?z_isinstance ?z_int ?z_bool ?z_abs ?z_tuple ?z_len ?c_GREATEST_PRIME ?z_min ?z_range ?k_ii ?k_ib ?k_tt ?k_bb ?nP
      (case n_Truths => k_is)
      (case pg_Truths => k_is)
      (case hd_Truths => k_is)
      (case po_Truths => k_is)
      (case sa_Truths => k_is)
      (case mk_Truths => k_is)
      (case kp_Truths => k_is)
      (case in_Truths => k_is)
      (case n_Costs => k_is)
      (case pg_Costs => k_is)
      (case hd_Costs => k_is)
      (case po_Costs => k_is)
      (case sa_Costs => k_is)
      (case mk_Costs => k_is)
      (case kp_Costs => k_is)
      (case in_Costs => k_is)
      (case n_Residues => k_is)
      (case pg_Residues => k_is)
      (case hd_Residues => k_is)
      (case po_Residues => k_is)
      (case sa_Residues => k_is)
      (case mk_Residues => k_is)
      (case kp_Residues => k_is)
      (case n_Fractions => k_is)
      (case pg_Fractions => k_is)
      (case hd_Fractions => k_is)
      (case po_Fractions => k_is)
      (case sa_Fractions => k_is)
      (case mk_Fractions => k_is)
      (case kp_Fractions => k_is)
      (case in_Fractions => k_is)
      (case n_is_whole => k_is)
      (case l_is_whole => exact H05.lk_is_whole _)
      (case c_is_whole => k_is)
      (case k_is_whole => k_is)
      (case n_divisor => k_is)
      (case l_divisor => exact H05.lk_divisor _)
      (case c_divisor => k_is)
      (case k_divisor => k_is)
      (case n_fraction => k_is)
      (case l_fraction => exact H05.lk_fraction _)
      (case c_fraction => k_is)
      (case k_fraction => k_is)
      (case n_is_prime => k_is)
      (case l_is_prime => exact H05.lk_is_prime _)
      (case c_is_prime => k_is)
      (case k_is_prime => k_is)
      (case n_Fractions_nought => k_is)
      (case i_Fractions_nought => k_is)
      (case l_Fractions_nought => exact H05.lk_Fractions_nought _)
      (case c_Fractions_nought => k_is)
      (case k_Fractions_nought => k_is)
      (case n_Fractions_one => k_is)
      (case i_Fractions_one => k_is)
      (case l_Fractions_one => exact H05.lk_Fractions_one _)
      (case c_Fractions_one => k_is)
      (case k_Fractions_one => k_is)
      (case n_Fractions_plus => k_is)
      (case i_Fractions_plus => k_is)
      (case l_Fractions_plus => exact H05.lk_Fractions_plus _)
      (case c_Fractions_plus => k_is)
      (case k_Fractions_plus => k_is)
      (case n_Fractions_times => k_is)
      (case i_Fractions_times => k_is)
      (case l_Fractions_times => exact H05.lk_Fractions_times _)
      (case c_Fractions_times => k_is)
      (case k_Fractions_times => k_is)
      (case n_Fractions_is_weight => k_is)
      (case i_Fractions_is_weight => k_is)
      (case l_Fractions_is_weight => exact H05.lk_Fractions_is_weight _)
      (case c_Fractions_is_weight => k_is)
      (case k_Fractions_is_weight => k_is)
      (case n_Residues___init__ => k_is)
      (case i_Residues___init__ => k_is)
      (case l_Residues___init__ => exact H05.lk_Residues___init__ _)
      (case c_Residues___init__ => k_is)
      (case k_Residues___init__ => k_is)
      (case n_Residues_nought => k_is)
      (case i_Residues_nought => k_is)
      (case l_Residues_nought => exact H05.lk_Residues_nought _)
      (case c_Residues_nought => k_is)
      (case k_Residues_nought => k_is)
      (case n_Residues_one => k_is)
      (case i_Residues_one => k_is)
      (case l_Residues_one => exact H05.lk_Residues_one _)
      (case c_Residues_one => k_is)
      (case k_Residues_one => k_is)
      (case n_Residues_plus => k_is)
      (case i_Residues_plus => k_is)
      (case l_Residues_plus => exact H05.lk_Residues_plus _)
      (case c_Residues_plus => k_is)
      (case k_Residues_plus => k_is)
      (case n_Residues_times => k_is)
      (case i_Residues_times => k_is)
      (case l_Residues_times => exact H05.lk_Residues_times _)
      (case c_Residues_times => k_is)
      (case k_Residues_times => k_is)
      (case n_Residues_is_weight => k_is)
      (case i_Residues_is_weight => k_is)
      (case l_Residues_is_weight => exact H05.lk_Residues_is_weight _)
      (case c_Residues_is_weight => k_is)
      (case k_Residues_is_weight => k_is)
      (case n_Costs_nought => k_is)
      (case i_Costs_nought => k_is)
      (case l_Costs_nought => exact H05.lk_Costs_nought _)
      (case c_Costs_nought => k_is)
      (case k_Costs_nought => k_is)
      (case n_Costs_one => k_is)
      (case i_Costs_one => k_is)
      (case l_Costs_one => exact H05.lk_Costs_one _)
      (case c_Costs_one => k_is)
      (case k_Costs_one => k_is)
      (case n_Costs_plus => k_is)
      (case i_Costs_plus => k_is)
      (case l_Costs_plus => exact H05.lk_Costs_plus _)
      (case c_Costs_plus => k_is)
      (case k_Costs_plus => k_is)
      (case n_Costs_times => k_is)
      (case i_Costs_times => k_is)
      (case l_Costs_times => exact H05.lk_Costs_times _)
      (case c_Costs_times => k_is)
      (case k_Costs_times => k_is)
      (case n_Costs_is_weight => k_is)
      (case i_Costs_is_weight => k_is)
      (case l_Costs_is_weight => exact H05.lk_Costs_is_weight _)
      (case c_Costs_is_weight => k_is)
      (case k_Costs_is_weight => k_is)
      (case n_Truths_nought => k_is)
      (case i_Truths_nought => k_is)
      (case l_Truths_nought => exact H05.lk_Truths_nought _)
      (case c_Truths_nought => k_is)
      (case k_Truths_nought => k_is)
      (case n_Truths_one => k_is)
      (case i_Truths_one => k_is)
      (case l_Truths_one => exact H05.lk_Truths_one _)
      (case c_Truths_one => k_is)
      (case k_Truths_one => k_is)
      (case n_Truths_plus => k_is)
      (case i_Truths_plus => k_is)
      (case l_Truths_plus => exact H05.lk_Truths_plus _)
      (case c_Truths_plus => k_is)
      (case k_Truths_plus => k_is)
      (case n_Truths_times => k_is)
      (case i_Truths_times => k_is)
      (case l_Truths_times => exact H05.lk_Truths_times _)
      (case c_Truths_times => k_is)
      (case k_Truths_times => k_is)
      (case n_Truths_is_weight => k_is)
      (case i_Truths_is_weight => k_is)
      (case l_Truths_is_weight => exact H05.lk_Truths_is_weight _)
      (case c_Truths_is_weight => k_is)
      (case k_Truths_is_weight => k_is)
      (case n_law_divisor => k_is)
      (case l_law_divisor => exact H05.lk__law_divisor _)
      (case c_law_divisor => k_is)
      (case k_law_divisor => k_is)
      (case n_law_low => k_is)
      (case l_law_low => exact H05.lk__law_low _)
      (case c_law_low => k_is)
      (case k_law_low => k_is)
      (case n_law_kinds => k_is)
      (case l_law_kinds => exact H05.lk__law_kinds _)
      (case c_law_kinds => k_is)
      (case k_law_kinds => k_is)
      (case n_law_weight => k_is)
      (case l_law_weight => exact H05.lk__law_weight _)
      (case c_law_weight => k_is)
      (case k_law_weight => k_is)
      (case n_law_three => k_is)
      (case l_law_three => exact H05.lk__law_three _)
      (case c_law_three => k_is)
      (case k_law_three => k_is)
      (case n_law_edges => k_is)
      (case l_law_edges => exact H05.lk__law_edges _)
      (case c_law_edges => k_is)
      (case k_law_edges => k_is)
      (case n_law => k_is)
      (case l_law => exact H05.lk_law _)
      (case c_law => k_is)
      (case k_law => k_is)
      (case z_isinstance => k_is)
      (case z_int => k_is)
      (case z_bool => k_is)
      (case z_abs => k_is)
      (case z_tuple => k_is)
      (case z_len => k_is)
      (case c_GREATEST_PRIME => k_is)
      (case z_min => k_is)
      (case z_range => k_is)
      (case k_ii => kit_is)
      (case k_ib => kit_is)
      (case k_tt => kit_is)
      (case k_bb => kit_is)
      (case nP => k_is)
    obtain ⟨t, T⟩ := T
    have e0 := hmg.symm.trans T.m_law
    cases e0
    exact ⟨_, K05.law_binds T, fun base kb nb => K05.ok_law T⟩
  case S => exact fun K H a ns hl hO hS => ⟨a, ns, rfl, hS, hl, fun _ => rfl⟩
  case C => exact fun _ _ _ _ z => z
